package sum_test

import (
	"strings"
	"testing"

	"forebay/api"
	"forebay/sum"
)

// turned is a text with one byte turned where x has ones.
func turned(s string, at int, x byte) string {
	b := []byte(s)
	b[at] ^= x
	return string(b)
}

// four are a number's bytes, the highest first.
func four(n int) string {
	return string([]byte{byte(n >> 24), byte(n >> 16), byte(n >> 8), byte(n)})
}

// framed is a frame as the chapter says it.
func framed(s string) string {
	return four(len(s)) + four(reckoned(four(len(s))+s)) + s
}

// wantOpen fails unless a frame with that text is opened.
func wantOpen(t *testing.T, s, text, behind string) {
	t.Helper()
	got, rest, e := sum.Open(s)
	if got != text || rest != behind || e != api.OK {
		t.Fatalf("a text of %d bytes, and %d behind it, with error %d, not %d and %d", len(got), len(rest), e, len(text), len(behind))
	}
}

// wantError fails unless s is refused so, and answered as it is.
func wantError(t *testing.T, s string, want api.Errno) {
	t.Helper()
	got, rest, e := sum.Open(s)
	if got != "" || rest != s || e != want {
		t.Fatalf("%d bytes: a text of %d bytes, and %d behind it, with error %d, not %d", len(s), len(got), len(rest), e, want)
	}
}

// texts are ordinary ones and the edges.
var texts = []string{
	"",
	"a",
	"123456789",
	"\x00",
	"\x00\x00\x00\x00\x00\x00\x00\x00",
	"\xff\xff\xff\xff\xff\xff\xff\xff",
	"\xff\x80\x00\xc3",
	"é世",
	"\x00\x00\x00\x01a",
	some(255, 1),
	some(256, 2),
	some(70000, 3),
	some(1<<20-1, 4),
	some(1<<20, 5),
}

func TestFrameKnown(t *testing.T) {
	for _, x := range []struct{ text, frame string }{
		{"", "\x00\x00\x00\x00\x48\x67\x4b\xc7"},
		{"a", "\x00\x00\x00\x01\xc5\x7d\xfe\x23a"},
		{"123456789", "\x00\x00\x00\x09\x69\x34\xcf\x6f123456789"},
	} {
		if got := sum.Frame(x.text); got != x.frame {
			t.Errorf("the frame of %q is %q, not %q", x.text, got, x.frame)
		}
		wantOpen(t, x.frame, x.text, "")
	}
}

func TestFrameBytes(t *testing.T) {
	for _, s := range texts {
		if got := sum.Frame(s); got != framed(s) {
			t.Errorf("the frame of a text of %d bytes isn't what the chapter says", len(s))
		}
	}
	for n := range 600 {
		s := some(n, uint64(n))
		if sum.Frame(s) != framed(s) {
			t.Errorf("the frame of a text of %d bytes isn't what the chapter says", n)
		}
	}
}

// TestFrameLong: Frame has no error, so a text that Open doesn't take has a frame, too.
func TestFrameLong(t *testing.T) {
	for _, n := range []int{1<<20 + 1, 1 << 21, 1<<24 + 3} {
		s := some(n, 6)
		f := sum.Frame(s)
		if f != four(n)+four(sum.Of(four(n), s))+s {
			t.Errorf("the frame of a text of %d bytes isn't what the chapter says", n)
		}
		wantError(t, f, api.ErrLong)
	}
}

func TestOpenFrame(t *testing.T) {
	for _, s := range texts {
		f := sum.Frame(s)
		for _, behind := range []string{"", "\x00", "q", f[:8], f[:len(f)-1], f, turned(f, 4, 1), "\xff\xff\xff\xff\xff\xff\xff\xff", some(50, 7)} {
			wantOpen(t, f+behind, s, behind)
		}
	}
}

// TestOpenSums: sums above 2^31 - 1 are read without a sign.
func TestOpenSums(t *testing.T) {
	above := 0
	for n := range 300 {
		s := some(n, uint64(n)+900)
		f := sum.Frame(s)
		if f[4] >= 0x80 {
			above++
		}
		wantOpen(t, f, s, "")
	}
	if above == 0 || above == 300 {
		t.Fatal(above)
	}
}

func TestOpenChain(t *testing.T) {
	var chain string
	for _, s := range texts {
		chain += sum.Frame(s)
	}
	left := chain + "end"
	for i, want := range texts {
		got, rest, e := sum.Open(left)
		if got != want || e != api.OK {
			t.Fatalf("frame %d: %d", i, e)
		}
		left = rest
	}
	if left != "end" {
		t.Fatalf("%q is left", left)
	}
	wantError(t, left, api.ErrShort)
}

// TestOpenFew: fewer than 8 bytes are too few whatever they say.
func TestOpenFew(t *testing.T) {
	for _, s := range []string{"\x00\x00\x00\x00\x48\x67\x4b\xc7", "\xff\xff\xff\xff\xff\xff\xff\xff", "\x00\x10\x00\x01\x00\x00\x00\x00", "\x00\x00\x00\x01\x00\x00\x00\x00", "abcdefgh"} {
		for n := range 8 {
			wantError(t, s[:n], api.ErrShort)
		}
	}
}

func TestOpenCut(t *testing.T) {
	for _, s := range []string{"", "a", "123456789", some(100, 8)} {
		f := sum.Frame(s)
		for n := range len(f) {
			wantError(t, f[:n], api.ErrShort)
		}
	}
	f := sum.Frame(some(1<<20, 9))
	for _, n := range []int{8, 9, 1 << 19, 1 << 20, 1<<20 + 7} {
		wantError(t, f[:n], api.ErrShort)
	}
}

func TestOpenLengths(t *testing.T) {
	body := strings.Repeat("x", 1<<20+64)
	for _, x := range []struct {
		size int
		e    api.Errno
	}{
		{0, api.ErrSum},
		{1, api.ErrSum},
		{1<<20 - 1, api.ErrSum},
		{1 << 20, api.ErrSum},
		{1<<20 + 1, api.ErrLong},
		{1<<20 + 64, api.ErrLong},
		{1 << 21, api.ErrLong},
		{1<<31 - 1, api.ErrLong},
		{1 << 31, api.ErrLong},
		{1<<31 + 1, api.ErrLong},
		{1<<32 - 9, api.ErrLong},
		{1<<32 - 8, api.ErrLong},
		{1<<32 - 1, api.ErrLong},
	} {
		wantError(t, four(x.size)+"\x12\x34\x56\x78"+body, x.e)
		// A length above 2^20 is told ahead of bytes that aren't there, and these ahead of the sum.
		short := x.e
		if x.size > 0 && x.e == api.ErrSum {
			short = api.ErrShort
		}
		wantError(t, four(x.size)+"\x12\x34\x56\x78", short)
		// The right sum doesn't let a length pass that mayn't be.
		if x.e == api.ErrLong {
			wantError(t, four(x.size)+four(sum.Of(four(x.size), body[:1<<20+1]))+body[:1<<20+1], api.ErrLong)
			wantError(t, four(x.size)+four(sum.Of(four(x.size))), api.ErrLong)
		}
	}
}

// TestOpenOneShort: a wrong sum isn't told while bytes aren't there.
func TestOpenOneShort(t *testing.T) {
	f := turned(sum.Frame("abcdef"), 5, 0xff)
	wantError(t, f[:len(f)-1], api.ErrShort)
	wantError(t, f, api.ErrSum)
	wantError(t, f+"z", api.ErrSum)
}

func TestOpenTurned(t *testing.T) {
	for _, s := range []string{"", "a", "123456789", "\x00\x00\x00\x00", some(100, 10)} {
		f := sum.Frame(s)
		for at := 4; at < len(f); at++ {
			for x := 1; x < 256; x++ {
				wantError(t, turned(f, at, byte(x)), api.ErrSum)
				wantError(t, turned(f, at, byte(x))+"behind", api.ErrSum)
			}
		}
	}
	f := sum.Frame(some(1<<20, 11))
	for _, at := range []int{4, 7, 8, 9, 1 << 19, 1<<20 + 6, 1<<20 + 7} {
		wantError(t, turned(f, at, 0xff), api.ErrSum)
		wantError(t, turned(f, at, 0x01), api.ErrSum)
	}
}

// TestOpenLengthTurned: the length is summed, too, so one that is turned opens nothing.
func TestOpenLengthTurned(t *testing.T) {
	s := some(40, 12)
	f := sum.Frame(s) + some(300, 13)
	for at := range 4 {
		for x := 1; x < 256; x++ {
			bad := turned(f, at, byte(x))
			size := int(bad[0])<<24 | int(bad[1])<<16 | int(bad[2])<<8 | int(bad[3])
			want := api.ErrSum
			if size > len(bad)-8 {
				want = api.ErrShort
			}
			if size > 1<<20 {
				want = api.ErrLong
			}
			wantError(t, bad, want)
		}
	}
}

// TestOpenOtherSums: sums of other bytes, or that stand otherwise, are wrong.
func TestOpenOtherSums(t *testing.T) {
	s := "123456789"
	size := four(len(s))
	right := reckoned(size + s)
	for _, wrong := range []int{0, 1<<32 - 1, reckoned(s), reckoned(size), reckoned(s + size), right ^ 0xFFFFFFFF, right + 1} {
		wantError(t, size+four(wrong)+s, api.ErrSum)
	}
	sign := four(right)
	wantError(t, size+string([]byte{sign[3], sign[2], sign[1], sign[0]})+s, api.ErrSum)
	wantError(t, four(right)+size+s, api.ErrLong)
	wantOpen(t, size+sign+s, s, "")
}
