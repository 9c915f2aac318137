package gauss_test

import (
	"slices"
	"testing"

	"forebay/api"
	"forebay/gauss"
)

// sum and product are reckoned exactly, and taken into the range in the end alone.
func sum(l []api.Val) api.Val {
	all := exactOf(api.Val{})
	for _, v := range l {
		all = all.plus(exactOf(v))
	}
	return all.value()
}

func product(l []api.Val) api.Val {
	all := exactOf(api.Val{Re: 1})
	for _, v := range l {
		all = all.times(exactOf(v))
	}
	return all.value()
}

func TestOfNone(t *testing.T) {
	want(t, "the sum of none", gauss.Add(), api.Val{})
	want(t, "the sum of none", gauss.Add([]api.Val{}...), api.Val{})
	want(t, "the product of none", gauss.Mul(), api.Val{Re: 1})
	want(t, "the product of none", gauss.Mul([]api.Val{}...), api.Val{Re: 1})
}

func TestOfOne(t *testing.T) {
	for _, v := range rights(2000, 4) {
		want(t, "the sum of one", gauss.Add(v), v)
		want(t, "the product of one", gauss.Mul(v), v)
	}
	for _, x := range wrongs() {
		want(t, "the sum of one that isn't right", gauss.Add(x[0]), x[1])
		want(t, "the product of one that isn't right", gauss.Mul(x[0]), x[1])
	}
}

func TestKnown(t *testing.T) {
	a, b := api.Val{Re: 1, Im: 2}, api.Val{Re: 3, Im: -1}
	want(t, "the product", gauss.Mul(a, b), api.Val{Re: 5, Im: 5})
	want(t, "the sum", gauss.Add(a, b), api.Val{Re: 4, Im: 1})
	want(t, "the difference", gauss.Sub(a, b), api.Val{Re: -2, Im: 3})
	want(t, "the difference", gauss.Sub(b, a), api.Val{Re: 2, Im: -3})
	want(t, "i times i", gauss.Mul(api.Val{Im: 1}, api.Val{Im: 1}), api.Val{Re: -1})
	want(t, "the product with 0", gauss.Mul(a, api.Val{}, b), api.Val{})
}

// TestRound: what leaves the range on one side comes in on the other one.
func TestRound(t *testing.T) {
	for _, x := range []struct {
		what      string
		got, want api.Val
	}{
		{"the greatest and one", gauss.Add(api.Val{Re: most, Im: most}, api.Val{Re: 1, Im: 1}), api.Val{Re: least, Im: least}},
		{"the least less one", gauss.Sub(api.Val{Re: least, Im: least}, api.Val{Re: 1, Im: 1}), api.Val{Re: most, Im: most}},
		{"the least twice", gauss.Add(api.Val{Re: least, Im: least}, api.Val{Re: least, Im: least}), api.Val{}},
		{"0 less the least", gauss.Sub(api.Val{}, api.Val{Re: least, Im: least}), api.Val{Re: least, Im: least}},
		{"the least less the greatest", gauss.Sub(api.Val{Re: least}, api.Val{Re: most}), api.Val{Re: 1}},
		{"the greatest times itself", gauss.Mul(api.Val{Re: most}, api.Val{Re: most}), api.Val{Re: 1}},
		{"the least times itself", gauss.Mul(api.Val{Re: least, Im: least}, api.Val{Re: least, Im: least}), api.Val{}},
		{"the least times -1", gauss.Mul(api.Val{Re: least, Im: most}, api.Val{Re: -1}), api.Val{Re: least, Im: -most}},
		{"the greatest ones", gauss.Mul(api.Val{Re: most, Im: least}, api.Val{Re: most, Im: most}), api.Val{Re: least + 1, Im: least + 1}},
		{"2^18 times 2", gauss.Mul(api.Val{Re: 1 << 18, Im: 1 << 18}, api.Val{Re: 2}), api.Val{Re: least, Im: least}},
	} {
		want(t, x.what, x.got, x.want)
	}
}

func TestOfTwo(t *testing.T) {
	var edges []api.Val
	for _, re := range []int{0, 1, -1, least, least + 1, most, 1 << 18} {
		for _, im := range []int{0, 1, -1, least, most - 1, most} {
			edges = append(edges, api.Val{Re: re, Im: im})
		}
	}
	l := append(edges, rights(60, 5)...)
	for _, a := range l {
		for _, b := range l {
			want(t, "the sum", gauss.Add(a, b), sum([]api.Val{a, b}))
			want(t, "the product", gauss.Mul(a, b), product([]api.Val{a, b}))
			want(t, "the difference", gauss.Sub(a, b), exactOf(a).less(exactOf(b)).value())
			want(t, "the difference and b", gauss.Add(gauss.Sub(a, b), b), a)
		}
	}
}

func TestOfMany(t *testing.T) {
	for n := range 120 {
		l := rights(n, uint64(n)+100)
		want(t, "the sum of many", gauss.Add(l...), sum(l))
		want(t, "the product of many", gauss.Mul(l...), product(l))
		odd := slices.Clone(l)
		for i := range odd { // products of odd parts don't sink to 0
			odd[i].Re |= 1
			odd[i].Im &^= 1
		}
		want(t, "the product of many", gauss.Mul(odd...), product(odd))
	}
}

// TestOfVeryMany: nothing is rounded, however many there are.
func TestOfVeryMany(t *testing.T) {
	l := make([]api.Val, 1<<20+1)
	for i := range l {
		l[i] = api.Val{Re: most, Im: least}
	}
	want(t, "the sum of very many", gauss.Add(l...), api.Val{Re: most, Im: least})
	for i := range l {
		l[i] = api.Val{Im: 1}
	}
	want(t, "the product of very many", gauss.Mul(l...), api.Val{Im: 1})
	for i := range l {
		l[i] = api.Val{Re: most, Im: 2}
	}
	by := exactOf(api.Val{Re: most, Im: 2})
	for range 20 { // the 2^20-th power
		by = exactOf(by.times(by).value())
	}
	want(t, "the product of very many", gauss.Mul(l...), by.times(exactOf(l[0])).value())
}

func TestNotRight(t *testing.T) {
	other := rights(1, 6)[0]
	for _, x := range wrongs() {
		w, r := x[0], x[1]
		want(t, "a sum", gauss.Add(w, other), gauss.Add(r, other))
		want(t, "a sum", gauss.Add(other, w), gauss.Add(other, r))
		want(t, "a sum", gauss.Add(other, w, w, other), gauss.Add(other, r, r, other))
		want(t, "a product", gauss.Mul(w, other), gauss.Mul(r, other))
		want(t, "a product", gauss.Mul(other, w), gauss.Mul(other, r))
		want(t, "a product", gauss.Mul(other, w, w, other), gauss.Mul(other, r, r, other))
		want(t, "a difference", gauss.Sub(w, other), gauss.Sub(r, other))
		want(t, "a difference", gauss.Sub(other, w), gauss.Sub(other, r))
		want(t, "a difference", gauss.Sub(w, w), api.Val{})
	}
}

// orders calls f with each order of l.
func orders(l []api.Val, f func([]api.Val)) {
	var pick func(at int)
	pick = func(at int) {
		if at == len(l) {
			f(l)
			return
		}
		for i := at; i < len(l); i++ {
			l[at], l[i] = l[i], l[at]
			pick(at + 1)
			l[at], l[i] = l[i], l[at]
		}
	}
	pick(0)
}

func TestAnyOrder(t *testing.T) {
	for seed := range uint64(40) {
		l := rights(5, seed+300)
		s, p := sum(l), product(l)
		orders(l, func(l []api.Val) {
			want(t, "the sum in another order", gauss.Add(l...), s)
			want(t, "the product in another order", gauss.Mul(l...), p)
		})
	}
}

func TestPartByPart(t *testing.T) {
	for seed := range uint64(60) {
		l := rights(9, seed+400)
		for i := range l {
			l[i].Re |= 1
		}
		s, p := gauss.Add(l...), gauss.Mul(l...)
		for i := range len(l) + 1 {
			for j := i; j <= len(l); j++ {
				a, b, c := l[:i], l[i:j], l[j:]
				want(t, "the sum of sums", gauss.Add(gauss.Add(a...), gauss.Add(b...), gauss.Add(c...)), s)
				want(t, "the product of products", gauss.Mul(gauss.Mul(a...), gauss.Mul(b...), gauss.Mul(c...)), p)
			}
		}
	}
}

// TestLaws: values are reckoned as complex numbers are.
func TestLaws(t *testing.T) {
	l := rights(900, 7)
	for i := 0; i+2 < len(l); i++ {
		a, b, c := l[i], l[i+1], l[i+2]
		want(t, "a product with a sum", gauss.Mul(a, gauss.Add(b, c)), gauss.Add(gauss.Mul(a, b), gauss.Mul(a, c)))
		want(t, "a product with a difference", gauss.Mul(a, gauss.Sub(b, c)), gauss.Sub(gauss.Mul(a, b), gauss.Mul(a, c)))
		want(t, "a difference", gauss.Sub(a, b), gauss.Add(a, gauss.Mul(b, api.Val{Re: -1})))
		want(t, "a turned one", gauss.Turn(a), gauss.Mul(a, api.Val{Im: 1}))
		want(t, "a product's conjugate", gauss.Conj(gauss.Mul(a, b)), gauss.Mul(gauss.Conj(a), gauss.Conj(b)))
		want(t, "a sum's conjugate", gauss.Conj(gauss.Add(a, b)), gauss.Add(gauss.Conj(a), gauss.Conj(b)))
		if whole := gauss.Mul(a, gauss.Conj(a)); whole.Im != 0 {
			t.Fatalf("%d times its conjugate is %d", a, whole)
		}
	}
}

func TestListsStay(t *testing.T) {
	l := append(rights(20, 8), api.Val{Re: 1 << 19, Im: -1 << 40})
	kept := slices.Clone(l)
	gauss.Add(l...)
	gauss.Mul(l...)
	if !slices.Equal(l, kept) {
		t.Error("a list was written into")
	}
}
