package octet_test

import (
	"strings"
	"testing"

	"forebay/api"
	"forebay/octet"
)

// item is a text, or else a number.
type item struct {
	isText bool
	text   string
	n      int
}

// items are some that hang on the seed alone.
func items(seed uint64) []item {
	next := func() uint64 {
		seed = seed*6364136223846793005 + 1442695040888963407
		return seed >> 32
	}
	var l []item
	for range next() % 12 {
		switch next() % 4 {
		case 0:
			l = append(l, item{isText: true, text: strings.Repeat(string([]byte{byte(next())}), int(next()%300))})
		case 1:
			l = append(l, item{n: numbers[next()%uint64(len(numbers))].n})
		default:
			l = append(l, item{n: int(int32(next()))})
		}
	}
	return l
}

func write(t *testing.T, l []item) string {
	t.Helper()
	var w octet.Writer
	for _, x := range l {
		e := api.OK
		if x.isText {
			e = w.Text(x.text)
		} else {
			e = w.Num(x.n)
		}
		if e != api.OK {
			t.Fatal(e)
		}
	}
	return w.Out()
}

// read reads the next thing, and tells whether it is the item.
func read(r *octet.Reader, x item) (bool, api.Errno) {
	if x.isText {
		s, e := r.Text(len(x.text))
		return s == x.text, e
	}
	n, e := r.Num()
	return n == x.n, e
}

func TestWrittenIsRead(t *testing.T) {
	for seed := range uint64(500) {
		l := items(seed)
		r := octet.New(write(t, l))
		for i, x := range l {
			if same, e := read(r, x); !same || e != api.OK {
				t.Fatalf("seed %d, item %d: %d", seed, i, e)
			}
		}
		wantLeft(t, r, 0)
	}
}

// TestEndsTooSoon: wherever the bytes are cut off, what stands whole is read, what doesn't is ErrShort, and stays.
func TestEndsTooSoon(t *testing.T) {
	l := []item{{n: -7}, {isText: true, text: "abc"}, {isText: true}, {n: 1<<31 - 1}, {isText: true, text: "\x00\x00\x00\x00"}}
	whole := write(t, l)
	for cut := range len(whole) {
		r := octet.New(whole[:cut])
		at := 0
		for i, x := range l {
			size := 4 + len(x.text)
			same, e := read(r, x)
			if at+size > cut {
				if e != api.ErrShort {
					t.Fatalf("cut at %d, item %d: %d", cut, i, e)
				}
				wantLeft(t, r, cut-at)
				break
			}
			if !same || e != api.OK {
				t.Fatalf("cut at %d, item %d: %d", cut, i, e)
			}
			at += size
			wantLeft(t, r, cut-at)
		}
	}
}
