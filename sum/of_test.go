package sum_test

import (
	"hash/crc32"
	"slices"
	"strings"
	"testing"

	"forebay/sum"
)

// reckoned is the sum, bit by bit, as the chapter says it.
func reckoned(s string) int {
	register := uint32(0xFFFFFFFF)
	for i := range len(s) {
		for bit := range 8 {
			unlike := register&1 != uint32(s[i])>>bit&1
			register >>= 1
			if unlike {
				register ^= 0x82F63B78
			}
		}
	}
	return int(register ^ 0xFFFFFFFF)
}

// some are n bytes that hang on the seed alone.
func some(n int, seed uint64) string {
	b := make([]byte, n)
	for i := range b {
		seed = seed*6364136223846793005 + 1442695040888963407
		b[i] = byte(seed >> 56)
	}
	return string(b)
}

func wantSum(t *testing.T, want int, l ...string) {
	t.Helper()
	if got := sum.Of(l...); got != want {
		t.Fatalf("the sum of %d texts is %#x, not %#x", len(l), got, want)
	}
}

func TestOfKnown(t *testing.T) {
	for _, x := range []struct {
		text string
		sum  int
	}{
		{"123456789", 0xE3069283},
		{"", 0},
		{"a", 0xC1D04330},
		{"\x00\x00\x00\x00", 0x48674BC7},
		{strings.Repeat("\x00", 32), 0x8A9136AA},
		{strings.Repeat("\xff", 32), 0x62A8AB43},
		{"The quick brown fox jumps over the lazy dog", 0x22620404},
	} {
		wantSum(t, x.sum, x.text)
		wantSum(t, reckoned(x.text), x.text)
	}
}

func TestOfNone(t *testing.T) {
	wantSum(t, 0)
	wantSum(t, 0, []string{}...)
	wantSum(t, 0, "")
	wantSum(t, 0, "", "", "")
}

func TestOfEachByte(t *testing.T) {
	for b := range 256 {
		one := string([]byte{byte(b)})
		wantSum(t, reckoned(one), one)
		wantSum(t, reckoned("q"+one+"z"), "q"+one+"z")
	}
}

func TestOfOrdinary(t *testing.T) {
	table := crc32.MakeTable(crc32.Castagnoli)
	for n := range 300 {
		s := some(n, uint64(n))
		wantSum(t, reckoned(s), s)
		wantSum(t, int(crc32.Checksum([]byte(s), table)), s)
	}
	for _, s := range []string{some(1<<20, 7), some(1<<20+1, 8), some(3<<20, 9)} {
		wantSum(t, int(crc32.Checksum([]byte(s), table)), s)
	}
}

// TestOfWithoutSign: a sum is 0 to 2^32 - 1, never below.
func TestOfWithoutSign(t *testing.T) {
	above := 0
	for n := range 200 {
		got := sum.Of(some(40, uint64(n)))
		if got < 0 || got > 1<<32-1 {
			t.Fatal(got)
		}
		if got >= 1<<31 {
			above++
		}
	}
	if above == 0 || above == 200 {
		t.Fatal(above)
	}
}

// TestOfCut: however a text is cut, the pieces' sum is its sum.
func TestOfCut(t *testing.T) {
	s := some(40, 3)
	want := reckoned(s)
	for i := range len(s) + 1 {
		wantSum(t, want, s[:i], s[i:])
		wantSum(t, want, "", s[:i], "", s[i:], "")
		for j := i; j <= len(s); j++ {
			wantSum(t, want, s[:i], s[i:j], s[j:])
		}
	}
	wantSum(t, want, strings.Split(s, "")...)
	var bytes []string
	for i := range len(s) {
		bytes = append(bytes, s[i:i+1])
	}
	wantSum(t, want, bytes...)
}

// TestOfOrder: the texts go one behind the other, as they stand in the list.
func TestOfOrder(t *testing.T) {
	wantSum(t, reckoned("abc"), "a", "b", "c")
	wantSum(t, reckoned("cba"), "c", "b", "a")
	if sum.Of("ab", "c") == sum.Of("c", "ab") {
		t.Error("the order doesn't matter")
	}
}

func TestOfTurned(t *testing.T) {
	s := some(64, 5)
	want := sum.Of(s)
	for i := range len(s) {
		for x := 1; x < 256; x++ {
			if sum.Of(turned(s, i, byte(x))) == want {
				t.Fatalf("byte %d turned by %#x: the same sum", i, x)
			}
		}
	}
}

func TestOfLeavesTheList(t *testing.T) {
	l := []string{"12345", "", "6789"}
	kept := slices.Clone(l)
	for range 3 {
		wantSum(t, 0xE3069283, l...)
	}
	if !slices.Equal(l, kept) {
		t.Error("the list was written into")
	}
}
