package gauss_test

import (
	"math"
	"math/big"
	"testing"

	"forebay/api"
	"forebay/gauss"
)

const (
	least = -1 << 19
	most  = 1<<19 - 1
)

// parts are ordinary ones and the edges, all of them within the range.
var parts = []int{0, 1, -1, 2, -2, 3, 7, -10, 1000, -1024, 65535, 1 << 18, -1 << 18, least, least + 1, most - 1, most}

// outside are numbers that no part may be, each with the part that it is taken for.
var outside = []struct{ n, part int }{
	{1 << 19, least},
	{1<<19 + 1, least + 1},
	{-1<<19 - 1, most},
	{-1<<19 - 2, most - 1},
	{1<<20 - 1, -1},
	{1 << 20, 0},
	{1<<20 + 1, 1},
	{-1<<20 + 1, 1},
	{-1 << 20, 0},
	{-1<<20 - 1, -1},
	{1<<20 + 1<<19 - 1, most},
	{1<<20 + 1<<19, least},
	{-1<<20 - 1<<19, least},
	{-1<<20 - 1<<19 - 1, most},
	{1<<40 + 5, 5},
	{-1<<40 - 5, -5},
	{1<<53 + 1, 1},
	{-1<<53 - 1, -1},
	{math.MaxInt, -1},
	{math.MaxInt - 1, -2},
	{math.MaxInt - 1<<19, most},
	{math.MaxInt - 1<<19 + 1, least},
	{math.MinInt, 0},
	{math.MinInt + 1, 1},
	{math.MinInt + 1<<19, least},
	{math.MinInt + 1<<19 - 1, most},
}

// exact is a complex number of any size.
type exact struct{ re, im *big.Int }

func exactOf(v api.Val) exact {
	return exact{big.NewInt(int64(v.Re)), big.NewInt(int64(v.Im))}
}

func (a exact) plus(b exact) exact {
	return exact{new(big.Int).Add(a.re, b.re), new(big.Int).Add(a.im, b.im)}
}

func (a exact) less(b exact) exact {
	return exact{new(big.Int).Sub(a.re, b.re), new(big.Int).Sub(a.im, b.im)}
}

func (a exact) times(b exact) exact {
	mul := func(x, y *big.Int) *big.Int { return new(big.Int).Mul(x, y) }
	return exact{new(big.Int).Sub(mul(a.re, b.re), mul(a.im, b.im)), new(big.Int).Add(mul(a.re, b.im), mul(a.im, b.re))}
}

// part is a number modulo 2^20, from -2^19 on.
func part(n *big.Int) int {
	span := big.NewInt(1 << 20)
	m := int(new(big.Int).Mod(n, span).Int64())
	if m >= 1<<19 {
		m -= 1 << 20
	}
	return m
}

func (a exact) value() api.Val {
	return api.Val{Re: part(a.re), Im: part(a.im)}
}

// some hands out numbers that hang on the seed alone.
func some(seed uint64) func() uint64 {
	return func() uint64 {
		seed = seed*6364136223846793005 + 1442695040888963407
		return seed >> 24
	}
}

// rights are n right values; half of their parts are edges.
func rights(n int, seed uint64) []api.Val {
	next := some(seed)
	one := func() int {
		if next()&1 == 0 {
			return parts[next()%uint64(len(parts))]
		}
		return int(next()%(1<<20)) + least
	}
	var l []api.Val
	for range n {
		l = append(l, api.Val{Re: one(), Im: one()})
	}
	return l
}

// wrongs are values that aren't right, each with the one that it is taken for.
func wrongs() [][2]api.Val {
	var l [][2]api.Val
	for i, x := range outside {
		y := outside[len(outside)-1-i]
		p := parts[i%len(parts)]
		l = append(l,
			[2]api.Val{{Re: x.n, Im: p}, {Re: x.part, Im: p}},
			[2]api.Val{{Re: p, Im: x.n}, {Re: p, Im: x.part}},
			[2]api.Val{{Re: x.n, Im: y.n}, {Re: x.part, Im: y.part}})
	}
	return l
}

func want(t *testing.T, what string, got, want api.Val) {
	t.Helper()
	if got != want {
		t.Fatalf("%s: %d, not %d", what, got, want)
	}
}

func TestOfWithin(t *testing.T) {
	for _, re := range parts {
		for _, im := range parts {
			want(t, "a value", gauss.Of(re, im), api.Val{Re: re, Im: im})
		}
	}
	for n := least; n <= most; n += 3 {
		want(t, "a value", gauss.Of(n, -1-n), api.Val{Re: n, Im: -1 - n})
	}
}

func TestOfOutside(t *testing.T) {
	for _, x := range outside {
		if part(big.NewInt(int64(x.n))) != x.part {
			t.Fatalf("%d isn't taken for %d", x.n, x.part)
		}
		for _, p := range parts {
			want(t, "outside ahead", gauss.Of(x.n, p), api.Val{Re: x.part, Im: p})
			want(t, "outside behind", gauss.Of(p, x.n), api.Val{Re: p, Im: x.part})
		}
		for _, y := range outside {
			want(t, "both outside", gauss.Of(x.n, y.n), api.Val{Re: x.part, Im: y.part})
		}
	}
}

func TestOfAny(t *testing.T) {
	next := some(1)
	for range 5000 {
		v := api.Val{Re: int(next() << 24), Im: int(next()<<23 ^ next())}
		got := gauss.Of(v.Re, -v.Im)
		want(t, "any numbers", got, exactOf(api.Val{Re: v.Re, Im: -v.Im}).value())
		if !gauss.Right(got) {
			t.Fatalf("%d isn't right", got)
		}
	}
}

func TestRight(t *testing.T) {
	for _, re := range parts {
		for _, im := range parts {
			if !gauss.Right(api.Val{Re: re, Im: im}) {
				t.Errorf("%d, %d isn't right", re, im)
			}
		}
	}
	for _, x := range wrongs() {
		if gauss.Right(x[0]) {
			t.Errorf("%d is right", x[0])
		}
	}
}

func TestConj(t *testing.T) {
	for _, x := range []struct{ v, conj api.Val }{
		{api.Val{}, api.Val{}},
		{api.Val{Re: 3, Im: 4}, api.Val{Re: 3, Im: -4}},
		{api.Val{Re: -3, Im: -4}, api.Val{Re: -3, Im: 4}},
		{api.Val{Re: least, Im: most}, api.Val{Re: least, Im: -most}},
		{api.Val{Re: most, Im: least}, api.Val{Re: most, Im: least}},
		{api.Val{Re: 0, Im: least + 1}, api.Val{Re: 0, Im: most}},
	} {
		want(t, "the conjugate", gauss.Conj(x.v), x.conj)
	}
	for _, v := range rights(3000, 2) {
		want(t, "the conjugate", gauss.Conj(v), exactOf(api.Val{Re: v.Re, Im: -v.Im}).value())
		want(t, "the conjugate's", gauss.Conj(gauss.Conj(v)), v)
	}
	for _, x := range wrongs() {
		want(t, "the conjugate of one that isn't right", gauss.Conj(x[0]), gauss.Conj(x[1]))
	}
}

func TestTurn(t *testing.T) {
	for _, x := range []struct{ v, turned api.Val }{
		{api.Val{}, api.Val{}},
		{api.Val{Re: 1}, api.Val{Im: 1}},
		{api.Val{Im: 1}, api.Val{Re: -1}},
		{api.Val{Re: 3, Im: 4}, api.Val{Re: -4, Im: 3}},
		{api.Val{Re: least, Im: most}, api.Val{Re: -most, Im: least}},
		{api.Val{Re: most, Im: least}, api.Val{Re: least, Im: most}},
	} {
		want(t, "turned", gauss.Turn(x.v), x.turned)
	}
	for _, v := range rights(3000, 3) {
		once := gauss.Turn(v)
		want(t, "turned", once, exactOf(api.Val{Re: -v.Im, Im: v.Re}).value())
		want(t, "turned four times", gauss.Turn(gauss.Turn(gauss.Turn(once))), v)
	}
	for _, x := range wrongs() {
		want(t, "one that isn't right, turned", gauss.Turn(x[0]), gauss.Turn(x[1]))
	}
}

func TestZero(t *testing.T) {
	for _, v := range []api.Val{{}, {Re: 1 << 20}, {Im: 1 << 20}, {Re: -1 << 20, Im: 1 << 21}, {Re: math.MinInt, Im: math.MinInt}} {
		if !gauss.Zero(v) {
			t.Errorf("%d isn't 0", v)
		}
	}
	for _, v := range []api.Val{{Re: 1}, {Im: 1}, {Re: -1}, {Im: -1}, {Re: 1, Im: -1}, {Re: least}, {Im: least}, {Re: most}, {Im: most}, {Re: 1 << 19}, {Im: 1 << 19}, {Re: 1 << 20, Im: 1}, {Re: 1, Im: 1 << 20}} {
		if gauss.Zero(v) {
			t.Errorf("%d is 0", v)
		}
	}
	for _, x := range wrongs() {
		if gauss.Zero(x[0]) != (x[1] == api.Val{}) {
			t.Errorf("%d isn't taken for %d", x[0], x[1])
		}
	}
}

func TestLess(t *testing.T) {
	for _, a := range parts {
		for _, b := range parts {
			// The imaginary parts don't matter, whichever is below.
			for _, im := range [][2]int{{0, 0}, {1, 2}, {2, 1}, {least, most}, {most, least}} {
				if gauss.Less(api.Val{Re: a, Im: im[0]}, api.Val{Re: b, Im: im[1]}) != (a < b) {
					t.Errorf("is %d below %d, with %d?", a, b, im)
				}
			}
		}
	}
	for _, x := range outside {
		for _, p := range parts {
			if gauss.Less(api.Val{Re: x.n}, api.Val{Re: p}) != (x.part < p) || gauss.Less(api.Val{Re: p}, api.Val{Re: x.n}) != (p < x.part) {
				t.Errorf("%d isn't taken for %d beside %d", x.n, x.part, p)
			}
			if gauss.Less(api.Val{Re: p, Im: x.n}, api.Val{Re: p}) || gauss.Less(api.Val{Re: p}, api.Val{Re: p, Im: x.n}) {
				t.Errorf("%d is below itself", p)
			}
		}
		for _, y := range outside {
			if gauss.Less(api.Val{Re: x.n}, api.Val{Re: y.n}) != (x.part < y.part) {
				t.Errorf("is %d below %d?", x.n, y.n)
			}
		}
	}
}
