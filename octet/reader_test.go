package octet_test

import (
	"math"
	"strings"
	"testing"

	"forebay/api"
	"forebay/octet"
)

// wantLeft fails unless so many bytes are left, and End tells so.
func wantLeft(t *testing.T, r *octet.Reader, want int) {
	t.Helper()
	if got := r.Left(); got != want {
		t.Fatalf("%d bytes are left, not %d", got, want)
	}
	end := api.OK
	if want > 0 {
		end = api.ErrForm
	}
	if e := r.End(); e != end {
		t.Fatalf("End with %d bytes left: %d", want, e)
	}
}

func wantNum(t *testing.T, n int, e api.Errno, want int, wantE api.Errno) {
	t.Helper()
	if n != want || e != wantE {
		t.Fatalf("%d with error %d, not %d with %d", n, e, want, wantE)
	}
}

func wantText(t *testing.T, s string, e api.Errno, want string, wantE api.Errno) {
	t.Helper()
	if s != want || e != wantE {
		t.Fatalf("a text of %d bytes with error %d, not one of %d with %d", len(s), e, len(want), wantE)
	}
}

func TestReadNum(t *testing.T) {
	var all string
	for _, x := range numbers {
		r := octet.New(x.bytes)
		wantLeft(t, r, 4)
		n, e := r.Num()
		wantNum(t, n, e, x.n, api.OK)
		wantLeft(t, r, 0)
		all += x.bytes
	}
	r := octet.New(all)
	for i, x := range numbers {
		wantLeft(t, r, 4*(len(numbers)-i))
		n, e := r.Num()
		wantNum(t, n, e, x.n, api.OK)
	}
	wantLeft(t, r, 0)
}

func TestReadNumShort(t *testing.T) {
	for _, s := range []string{"", "\x00", "\x00\x01", "\x00\x01\x02", "\xff\xff\xff"} {
		r := octet.New(s)
		for range 2 {
			n, e := r.Num()
			wantNum(t, n, e, 0, api.ErrShort)
			wantLeft(t, r, len(s))
		}
		r = octet.New("\x00\x00\x00\x09" + s)
		n, e := r.Num()
		wantNum(t, n, e, 9, api.OK)
		n, e = r.Num()
		wantNum(t, n, e, 0, api.ErrShort)
		wantLeft(t, r, len(s))
	}
}

func TestWithin(t *testing.T) {
	for _, x := range numbers {
		for _, y := range []struct {
			from, to int
			e        api.Errno
		}{
			{x.n, x.n, api.OK},
			{x.n - 1, x.n + 1, api.OK},
			{x.n, x.n + 1, api.OK},
			{x.n - 1, x.n, api.OK},
			{math.MinInt, math.MaxInt, api.OK},
			{math.MinInt, x.n, api.OK},
			{x.n, math.MaxInt, api.OK},
			{x.n + 1, math.MaxInt, api.ErrRange},
			{math.MinInt, x.n - 1, api.ErrRange},
			{x.n + 1, x.n + 1, api.ErrRange},
			{x.n - 1, x.n - 1, api.ErrRange},
			{x.n + 1, x.n - 1, api.ErrRange},
			{x.n + 1, x.n, api.ErrRange},
			{x.n, x.n - 1, api.ErrRange},
			{math.MaxInt, math.MinInt, api.ErrRange},
			// The bounds are not taken modulo 2^32.
			{x.n + 1<<32, x.n + 1<<32, api.ErrRange},
			{x.n - 1<<32, x.n - 1<<32, api.ErrRange},
		} {
			r := octet.New(x.bytes + "ab")
			n, e := r.Within(y.from, y.to)
			if y.e != api.OK {
				wantNum(t, n, e, 0, y.e)
				wantLeft(t, r, 6)
				n, e = r.Num()
				wantNum(t, n, e, x.n, api.OK)
				continue
			}
			wantNum(t, n, e, x.n, api.OK)
			wantLeft(t, r, 2)
		}
	}
}

func TestWithinShort(t *testing.T) {
	for _, s := range []string{"", "\x00", "\x00\x00", "\x00\x00\x00"} {
		r := octet.New(s)
		// ErrShort is asked ahead of ErrRange, so bounds that let nothing pass don't matter.
		for _, y := range [][2]int{{0, 9}, {9, 0}, {5, 9}, {math.MinInt, math.MaxInt}} {
			n, e := r.Within(y[0], y[1])
			wantNum(t, n, e, 0, api.ErrShort)
			wantLeft(t, r, len(s))
		}
	}
}

func TestReadText(t *testing.T) {
	for _, text := range []string{"", "a", "ab", "\x00\x00\x00\x01", "\xff\x80\x00", "é世", strings.Repeat("z", 1<<20)} {
		var w octet.Writer
		w.Text(text)
		for _, most := range []int{len(text), len(text) + 1, 1 << 20, 1<<31 - 1, math.MaxInt} {
			for _, behind := range []string{"", "q", "\x00\x00\x00\x01q"} {
				r := octet.New(w.Out() + behind)
				s, e := r.Text(most)
				wantText(t, s, e, text, api.OK)
				wantLeft(t, r, len(behind))
			}
		}
		for _, most := range []int{len(text) - 1, -1, -1 << 31, math.MinInt} {
			r := octet.New(w.Out())
			s, e := r.Text(most)
			wantText(t, s, e, "", api.ErrRange)
			wantLeft(t, r, 4+len(text))
			s, e = r.Text(len(text))
			wantText(t, s, e, text, api.OK)
			wantLeft(t, r, 0)
		}
	}
}

// TestReadTextLong: most alone says how long a text may be that is read.
func TestReadTextLong(t *testing.T) {
	text := strings.Repeat("x", 1<<20+1)
	r := octet.New("\x00\x10\x00\x01" + text)
	s, e := r.Text(1 << 20)
	wantText(t, s, e, "", api.ErrRange)
	wantLeft(t, r, 4+len(text))
	s, e = r.Text(1<<20 + 1)
	wantText(t, s, e, text, api.OK)
	wantLeft(t, r, 0)
}

func TestReadTextErrors(t *testing.T) {
	for _, x := range []struct {
		bytes string
		most  int
		e     api.Errno
	}{
		{"", 9, api.ErrShort},
		{"", -1, api.ErrShort},
		{"\x00", 9, api.ErrShort},
		{"\x00\x00\x00", 9, api.ErrShort},
		{"\xff\xff\xff", -1, api.ErrShort},
		{"\x00\x00\x00\x00", -1, api.ErrRange},
		{"\xff\xff\xff\xff", 9, api.ErrRange},
		{"\xff\xff\xff\xffabcd", math.MaxInt, api.ErrRange},
		{"\xff\xff\xff\xffabcd", -1, api.ErrRange},
		{"\xff\xff\xff\xfeabcd", -2, api.ErrRange},
		{"\x80\x00\x00\x00abcd", math.MaxInt, api.ErrRange},
		{"\x80\x00\x00\x00abcd", math.MinInt, api.ErrRange},
		{"\x00\x00\x00\x01", 1, api.ErrShort},
		{"\x00\x00\x00\x01", 0, api.ErrRange},
		{"\x00\x00\x00\x05abcd", 4, api.ErrRange},
		{"\x00\x00\x00\x05abcd", 5, api.ErrShort},
		{"\x00\x00\x00\x05abcd", 9, api.ErrShort},
		{"\x00\x00\x00\x08abcd", 8, api.ErrShort},
		{"\x00\x00\x01\x00abcd", 256, api.ErrShort},
		{"\x7f\xff\xff\xffabcd", 1<<31 - 2, api.ErrRange},
		{"\x7f\xff\xff\xffabcd", 1<<31 - 1, api.ErrShort},
		{"\x7f\xff\xff\xffabcd", math.MaxInt, api.ErrShort},
	} {
		r := octet.New(x.bytes)
		for range 2 {
			s, e := r.Text(x.most)
			if s != "" || e != x.e {
				t.Errorf("Text(%d) of %q: %q, %d, not %d", x.most, x.bytes, s, e, x.e)
			}
			wantLeft(t, r, len(x.bytes))
		}
		if len(x.bytes) >= 4 {
			_, e := r.Num()
			wantNum(t, 0, e, 0, api.OK)
			wantLeft(t, r, len(x.bytes)-4)
		}
	}
}

func TestEmptyReaders(t *testing.T) {
	var zero octet.Reader
	for _, r := range []*octet.Reader{octet.New(""), &zero} {
		wantLeft(t, r, 0)
		n, e := r.Num()
		wantNum(t, n, e, 0, api.ErrShort)
		s, e := r.Text(9)
		wantText(t, s, e, "", api.ErrShort)
		wantLeft(t, r, 0)
	}
}

func TestReaderCopied(t *testing.T) {
	a := octet.New("\x00\x00\x00\x01\x00\x00\x00\x02")
	b := *a
	a.Num()
	wantLeft(t, a, 4)
	wantLeft(t, &b, 8)
	n, e := b.Num()
	wantNum(t, n, e, 1, api.OK)
	n, e = a.Num()
	wantNum(t, n, e, 2, api.OK)
	wantLeft(t, &b, 4)
}

func TestNilReader(t *testing.T) {
	var r *octet.Reader
	n, e := r.Num()
	wantNum(t, n, e, 0, api.ErrArg)
	for _, y := range [][2]int{{0, 9}, {0, 0}, {9, 0}} {
		n, e = r.Within(y[0], y[1])
		wantNum(t, n, e, 0, api.ErrArg)
	}
	for _, most := range []int{-1, 0, 9} {
		s, e := r.Text(most)
		wantText(t, s, e, "", api.ErrArg)
	}
	if r.Left() != 0 {
		t.Error(r.Left())
	}
	if e := r.End(); e != api.ErrArg {
		t.Error(e)
	}
}
