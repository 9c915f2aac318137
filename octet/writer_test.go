package octet_test

import (
	"bytes"
	"encoding/binary"
	"math"
	"slices"
	"strings"
	"testing"

	"forebay/api"
	"forebay/octet"
)

// numbers are ordinary ones and the edges, each with the bytes that the chapter asks for.
var numbers = []struct {
	n     int
	bytes string
}{
	{0, "\x00\x00\x00\x00"},
	{1, "\x00\x00\x00\x01"},
	{-1, "\xff\xff\xff\xff"},
	{-2, "\xff\xff\xff\xfe"},
	{127, "\x00\x00\x00\x7f"},
	{128, "\x00\x00\x00\x80"},
	{255, "\x00\x00\x00\xff"},
	{256, "\x00\x00\x01\x00"},
	{-256, "\xff\xff\xff\x00"},
	{-257, "\xff\xff\xfe\xff"},
	{1 << 16, "\x00\x01\x00\x00"},
	{0x01020304, "\x01\x02\x03\x04"},
	{-0x01020304, "\xfe\xfd\xfc\xfc"},
	{1<<31 - 2, "\x7f\xff\xff\xfe"},
	{1<<31 - 1, "\x7f\xff\xff\xff"},
	{-1<<31 + 1, "\x80\x00\x00\x01"},
	{-1 << 31, "\x80\x00\x00\x00"},
}

// outside are no numbers.
var outside = []int{1 << 31, -1<<31 - 1, 1<<31 + 1, 1 << 32, -1 << 32, 1<<32 - 1, math.MaxInt, math.MinInt}

// wantOut fails unless so much, and nothing else, is written.
func wantOut(t *testing.T, w *octet.Writer, want string) {
	t.Helper()
	if got := w.Out(); got != want {
		t.Fatalf("written are %d bytes, not the %d that are wanted", len(got), len(want))
	}
}

func TestNumBytes(t *testing.T) {
	for _, x := range numbers {
		var w octet.Writer
		if e := w.Num(x.n); e != api.OK {
			t.Errorf("Num(%d): %d", x.n, e)
		}
		if got := w.Out(); got != x.bytes {
			t.Errorf("Num(%d) writes %q, not %q", x.n, got, x.bytes)
		}
	}
}

func TestNumList(t *testing.T) {
	var list []int
	var want string
	var alone octet.Writer
	for _, x := range numbers {
		list = append(list, x.n)
		want += x.bytes
		alone.Num(x.n)
	}
	kept := slices.Clone(list)
	var w octet.Writer
	if e := w.Num(list...); e != api.OK {
		t.Fatal(e)
	}
	wantOut(t, &w, want)
	wantOut(t, &alone, want)
	if !slices.Equal(list, kept) {
		t.Error("the list was written into")
	}
	list[0] = 77
	wantOut(t, &w, want)
}

func TestNumOfNone(t *testing.T) {
	var w octet.Writer
	if e := w.Num(); e != api.OK {
		t.Error(e)
	}
	wantOut(t, &w, "")
	w.Num(5)
	if e := w.Num([]int{}...); e != api.OK {
		t.Error(e)
	}
	wantOut(t, &w, "\x00\x00\x00\x05")
}

func TestNumOutside(t *testing.T) {
	for _, n := range outside {
		for _, list := range [][]int{{n}, {n, 1, 2}, {1, n, 2}, {1, 2, n}, {n, n}} {
			var w octet.Writer
			if e := w.Num(list...); e != api.ErrRange {
				t.Errorf("Num(%v): %d", list, e)
			}
			wantOut(t, &w, "")
			w.Num(7)
			if e := w.Num(list...); e != api.ErrRange {
				t.Errorf("Num(%v): %d", list, e)
			}
			wantOut(t, &w, "\x00\x00\x00\x07")
			w.Num(8)
			wantOut(t, &w, "\x00\x00\x00\x07\x00\x00\x00\x08")
		}
	}
}

func TestTextBytes(t *testing.T) {
	for _, x := range []struct{ text, bytes string }{
		{"", "\x00\x00\x00\x00"},
		{"a", "\x00\x00\x00\x01a"},
		{"ab", "\x00\x00\x00\x02ab"},
		{"\x00\xff\x80", "\x00\x00\x00\x03\x00\xff\x80"},
		{"é世", "\x00\x00\x00\x05é世"},
		{strings.Repeat("x", 256), "\x00\x00\x01\x00" + strings.Repeat("x", 256)},
		{strings.Repeat("y", 1<<20-1), "\x00\x0f\xff\xff" + strings.Repeat("y", 1<<20-1)},
		{strings.Repeat("z", 1<<20), "\x00\x10\x00\x00" + strings.Repeat("z", 1<<20)},
	} {
		var w octet.Writer
		if e := w.Text(x.text); e != api.OK {
			t.Errorf("a text of %d bytes: %d", len(x.text), e)
		}
		wantOut(t, &w, x.bytes)
	}
}

func TestTextTooLong(t *testing.T) {
	for _, most := range []int{1<<20 + 1, 1<<20 + 2, 1 << 21} {
		long := strings.Repeat("x", most)
		var w octet.Writer
		if e := w.Text(long); e != api.ErrLong {
			t.Errorf("a text of %d bytes: %d", most, e)
		}
		wantOut(t, &w, "")
		w.Text("ab")
		if e := w.Text(long); e != api.ErrLong {
			t.Errorf("a text of %d bytes: %d", most, e)
		}
		wantOut(t, &w, "\x00\x00\x00\x02ab")
		w.Text("c")
		wantOut(t, &w, "\x00\x00\x00\x02ab\x00\x00\x00\x01c")
	}
}

func TestOutTakesNothing(t *testing.T) {
	var w octet.Writer
	wantOut(t, &w, "")
	w.Num(1)
	first := w.Out()
	wantOut(t, &w, first)
	w.Text("q")
	w.Num(2)
	wantOut(t, &w, "\x00\x00\x00\x01\x00\x00\x00\x01q\x00\x00\x00\x02")
	if first != "\x00\x00\x00\x01" {
		t.Errorf("what was answered is now %q", first)
	}
}

func TestWriterCopied(t *testing.T) {
	for n := range 40 {
		var a octet.Writer
		for i := range n {
			a.Num(i)
		}
		ahead := a.Out()
		b := a
		a.Num(1)
		b.Num(2)
		c := a
		a.Text("a")
		c.Text("c")
		wantOut(t, &a, ahead+"\x00\x00\x00\x01\x00\x00\x00\x01a")
		wantOut(t, &b, ahead+"\x00\x00\x00\x02")
		wantOut(t, &c, ahead+"\x00\x00\x00\x01\x00\x00\x00\x01c")
	}
}

func TestManyWrites(t *testing.T) {
	var w octet.Writer
	var want bytes.Buffer
	for i := range 1 << 17 {
		w.Num(-i)
		binary.Write(&want, binary.BigEndian, int32(-i))
	}
	wantOut(t, &w, want.String())
}

func TestNilWriter(t *testing.T) {
	var w *octet.Writer
	for _, list := range [][]int{nil, {1}, {1, 2}, {1 << 31}} {
		if e := w.Num(list...); e != api.ErrArg {
			t.Errorf("Num(%v): %d", list, e)
		}
	}
	for _, s := range []string{"", "ab", strings.Repeat("x", 1<<20+1)} {
		if e := w.Text(s); e != api.ErrArg {
			t.Errorf("a text of %d bytes: %d", len(s), e)
		}
	}
	if s := w.Out(); s != "" {
		t.Errorf("%q", s)
	}
}
