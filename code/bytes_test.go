package code_test

import (
	"encoding/binary"
	"math"
	"slices"
	"testing"

	"forebay/api"
	"forebay/code"
	"forebay/octet"
)

// numbersOf are numbers as bytes, reckoned in another way than layer 1's.
func numbersOf(l ...int) string {
	var b []byte
	for _, n := range l {
		b = binary.BigEndian.AppendUint32(b, uint32(n))
	}
	return string(b)
}

// bytesOf are a program's bytes, right or not.
func bytesOf(p []api.Instr) string {
	l := []int{len(p)}
	for _, i := range p {
		l = append(l, i.Op, i.A)
	}
	return numbersOf(l...)
}

// wantRefused fails unless Get answers the error, and leaves the reader as it was.
func wantRefused(t *testing.T, s string, e api.Errno) {
	t.Helper()
	r := octet.New(numbersOf(77) + s)
	if n, e := r.Num(); n != 77 || e != api.OK {
		t.Fatal(n, e)
	}
	for range 2 {
		p, got := code.Get(r)
		if len(p) != 0 || got != e {
			t.Fatalf("%q: %d with error %d, not %d", s, p, got, e)
		}
		if r.Left() != len(s) {
			t.Fatalf("%q: with error %d %d bytes are left, not %d", s, e, r.Left(), len(s))
		}
	}
	// Not only are so many bytes left: they are those.
	for at := 0; at+4 <= len(s); at += 4 {
		n, e := r.Num()
		if want := int(int32(binary.BigEndian.Uint32([]byte(s[at:])))); n != want || e != api.OK {
			t.Fatalf("%q: behind a call that was refused %d with error %d stands at %d, not %d", s, n, e, at, want)
		}
	}
}

func TestPut(t *testing.T) {
	for _, p := range fitting() {
		kept := slices.Clone(p)
		var w octet.Writer
		w.Num(5)
		if e := code.Put(&w, p); e != api.OK {
			t.Fatalf("Put of %d: %d", p, e)
		}
		w.Num(6)
		if want := numbersOf(5) + bytesOf(p) + numbersOf(6); w.Out() != want {
			t.Fatalf("the bytes of %d are %q, not %q", p, w.Out(), want)
		}
		if !slices.Equal(p, kept) {
			t.Fatalf("%d was written into", kept)
		}
	}
}

func TestPutKnown(t *testing.T) {
	for _, x := range []struct {
		text, bytes string
	}{
		{"", "\x00\x00\x00\x00"},
		{"IN; EMIT", "\x00\x00\x00\x02" + "\x00\x00\x00\x03\x00\x00\x00\x00" + "\x00\x00\x00\x0e\x00\x00\x00\x00"},
		{"PUSH -1", "\x00\x00\x00\x01" + "\x00\x00\x00\x01\xff\xff\xff\xff"},
		{"JZ 24", "\x00\x00\x00\x01" + "\x00\x00\x00\x0f\x00\x00\x00\x18"},
	} {
		p, _ := code.Parse(x.text)
		var w octet.Writer
		if e := code.Put(&w, p); e != api.OK || w.Out() != x.bytes {
			t.Errorf("the bytes of %q are %q with error %d, not %q", x.text, w.Out(), e, x.bytes)
		}
	}
}

func TestPutRefused(t *testing.T) {
	for _, p := range fitting() {
		if e := code.Put(nil, p); e != api.ErrArg {
			t.Fatalf("Put of %d with no writer: %d", p, e)
		}
	}
	for _, p := range unfit() {
		if e := code.Put(nil, p); e != api.ErrArg {
			t.Fatalf("Put of what doesn't fit with no writer: %d", e)
		}
		kept := slices.Clone(p)
		var w octet.Writer
		if e := code.Put(&w, p); e != api.ErrArg || w.Out() != "" {
			t.Fatalf("Put of %d instructions that don't fit: %d, and %d bytes are written", len(p), e, len(w.Out()))
		}
		w.Num(5)
		if e := code.Put(&w, p); e != api.ErrArg || w.Out() != numbersOf(5) {
			t.Fatalf("Put of %d instructions that don't fit: %d, and %d bytes are written", len(p), e, len(w.Out()))
		}
		if !slices.Equal(p, kept) {
			t.Fatalf("%d instructions were written into", len(kept))
		}
	}
}

func TestGet(t *testing.T) {
	for _, p := range fitting() {
		for _, behind := range []string{"", "\x01", numbersOf(9), numbersOf(0, -1, 99), bytesOf(p)} {
			r := octet.New(bytesOf(p) + behind)
			got, e := code.Get(r)
			if !slices.Equal(got, p) || e != api.OK {
				t.Fatalf("%d with error %d, not %d", got, e, p)
			}
			if r.Left() != len(behind) {
				t.Fatalf("behind %d %d bytes are left, not %d", p, r.Left(), len(behind))
			}
		}
	}
}

// TestGetPut: what was written, one behind the other, is read so.
func TestGetPut(t *testing.T) {
	var w octet.Writer
	l := fitting()
	for _, p := range l {
		if e := code.Put(&w, p); e != api.OK {
			t.Fatal(p, e)
		}
	}
	r := octet.New(w.Out())
	for _, p := range l {
		got, e := code.Get(r)
		if !slices.Equal(got, p) || e != api.OK {
			t.Fatalf("%d with error %d, not %d", got, e, p)
		}
	}
	if e := r.End(); e != api.OK {
		t.Fatal(e, r.Left())
	}
	wantRefused(t, "", api.ErrShort)
}

func TestGetNone(t *testing.T) {
	for range 2 {
		if p, e := code.Get(nil); len(p) != 0 || e != api.ErrArg {
			t.Fatal(p, e)
		}
	}
	var r octet.Reader
	if p, e := code.Get(&r); len(p) != 0 || e != api.ErrShort {
		t.Fatal(p, e)
	}
}

func TestGetHowMany(t *testing.T) {
	many := make([]int, 60)
	for _, n := range []int{-1, 25, -2, 26, 256, 1 << 16, math.MaxInt32, math.MinInt32, math.MinInt32 + 24} {
		wantRefused(t, numbersOf(n), api.ErrRange)
		wantRefused(t, numbersOf(n)+numbersOf(many...), api.ErrRange)
		wantRefused(t, numbersOf(n)+"\x00", api.ErrRange)
	}
}

func TestGetOperation(t *testing.T) {
	for _, op := range []int{-1, 18, -2, 19, 256, 1 << 16, math.MaxInt32, math.MinInt32} {
		for _, at := range []int{0, 1, 12, 23} {
			p := some(24, op)
			p[at] = api.Instr{Op: op}
			wantRefused(t, bytesOf(p), api.ErrRange)
			wantRefused(t, bytesOf(p)+numbersOf(0, 0), api.ErrRange)
			// The operation is asked ahead of the number behind it, which isn't there.
			wantRefused(t, bytesOf(p)[:4+8*at+4], api.ErrRange)
		}
	}
}

func TestGetShort(t *testing.T) {
	for _, p := range fitting() {
		s := bytesOf(p)
		for n := range len(s) {
			if len(p) < 24 || n < 16 || n > len(s)-16 {
				wantRefused(t, s[:n], api.ErrShort)
			}
		}
	}
}

func TestGetNotRight(t *testing.T) {
	for k, i := range wrongs() {
		if i.Op < 0 || i.Op >= len(operations) || i.A < math.MinInt32 || i.A > math.MaxInt32 {
			continue
		}
		wantRefused(t, bytesOf([]api.Instr{i}), api.ErrForm)
		for _, at := range []int{0, 1, 12, 23} {
			p := some(24, k)
			p[at] = i
			wantRefused(t, bytesOf(p), api.ErrForm)
			wantRefused(t, bytesOf(p)+numbersOf(99), api.ErrForm)
		}
	}
}

// TestGetOrder: the errors of the numbers are asked ahead of whether the instructions are right.
func TestGetOrder(t *testing.T) {
	bad := api.Instr{Op: code.Halt, A: 1}
	wantRefused(t, bytesOf([]api.Instr{bad, {}})[:12], api.ErrShort)
	wantRefused(t, bytesOf([]api.Instr{bad, {}})[:19], api.ErrShort)
	wantRefused(t, bytesOf([]api.Instr{bad, {Op: 18}}), api.ErrRange)
	wantRefused(t, bytesOf([]api.Instr{bad, {Op: 18}, {}})[:20], api.ErrRange)
	wantRefused(t, bytesOf([]api.Instr{bad, {Op: 17}}), api.ErrForm)
}

// TestGetNew: what is answered is memory of its own.
func TestGetNew(t *testing.T) {
	p := []api.Instr{{Op: code.In}, {Op: code.Emit}}
	r := octet.New(bytesOf(p) + bytesOf(p))
	a, _ := code.Get(r)
	b, _ := code.Get(r)
	a[0], a[1] = api.Instr{Op: code.Lt}, api.Instr{Op: code.Lt}
	if !slices.Equal(b, p) {
		t.Fatal(b)
	}
}
