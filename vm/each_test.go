package vm_test

import (
	"slices"
	"testing"

	"forebay/api"
	"forebay/code"
	"forebay/vm"
)

// wantEach fails unless the words, run for each input, come to the result.
func wantEach(t *testing.T, words, before, in, out, behind string, steps int) {
	t.Helper()
	want := vm.Result{Out: values(t, out), Cells: cells(t, behind), Steps: steps}
	got, e := vm.Each(program(t, words), cells(t, before), values(t, in)...)
	if e != api.OK || !same(got, want) {
		t.Errorf("%q of %s with %s: %d with error %d, not %d", words, in, before, got, e, want)
	}
}

func TestEachOrdinary(t *testing.T) {
	sums := "IN; LOAD 0; ADD; DUP; STORE 0; EMIT"
	wantEach(t, sums, "0 9", "", "", "0 9", 0)
	wantEach(t, sums, "0 9", "3", "3", "3 9", 6)
	wantEach(t, sums, "0 9", "3 4 5-1i", "3 7 12-1i", "12-1i 9", 18)
	wantEach(t, sums, "100+1i 9", "3 4 5-1i", "103+1i 107+1i 112", "112 9", 18)
	// The last two inputs, the last one first.
	wantEach(t, "LOAD 0; STORE 1; IN; STORE 0", "1 2", "3 4 5", "", "5 4", 12)
	wantEach(t, "LOAD 0; STORE 1; IN; STORE 0", "1 2", "3", "", "3 1", 4)
	// Numbers of Fibonacci: what is put out hangs on the cells alone.
	wantEach(t, "LOAD 0; LOAD 1; DUP; STORE 0; ADD; DUP; STORE 1; EMIT", "0 1", "0 0 0 0 0 0", "1 2 3 5 8 13", "8 13", 48)
	// Some are let pass, some aren't: each run has its own steps.
	wantEach(t, "IN; JZ 2; IN; EMIT", "1 2", "0 7 0 0 0+1i 0", "7 0+1i", "1 2", 16)
	wantEach(t, "IN; JZ 2; IN; EMIT; HALT", "1 2", "0 7", "7", "1 2", 8)
	// All four of each.
	wantEach(t, "IN; EMIT; LOAD 0; EMIT; LOAD 1; EMIT; IN; STORE 0; LOAD 0; STORE 1; PUSHI 1; EMIT", "1 2", "3 4", "3 1 2 0+1i 4 3 3 0+1i", "4 4", 24)
}

// TestEachEmpty: the empty program does nothing, for each input.
func TestEachEmpty(t *testing.T) {
	wantEach(t, "", "1 2", "", "", "1 2", 0)
	wantEach(t, "", "1 2", "3 4 5", "", "1 2", 0)
	wantEach(t, "HALT", "1 2", "", "", "1 2", 0)
	wantEach(t, "HALT", "1 2", "3 4 5", "", "1 2", 3)
}

// TestEachStack: a run begins with nothing on the stack, whatever the one ahead left there.
func TestEachStack(t *testing.T) {
	wantEach(t, "IN; IN; IN; IN; IN; IN; IN; IN", "1 2", "3 4 5", "", "1 2", 24)
	wantEach(t, "IN; IN; EMIT; HALT", "1 2", "3 4 5", "3 4 5", "1 2", 12)
	wantEach(t, "LOAD 0; LOAD 0; JZ 4; IN; STORE 0; EMIT; HALT; IN; STORE 0; EMIT", "0 2", "3 4 5", "0 3 4", "5 2", 20)
}

func TestEachRefused(t *testing.T) {
	ok, both := values(t, "1 2+1i 3"), cells(t, "1 2")
	bad := wrong()
	for _, p := range unsafe(t) {
		kept := slices.Clone(p)
		for _, in := range [][]api.Val{nil, {}, ok[:1], ok, bad[:1], bad} {
			r, e := vm.Each(p, both, in...)
			wantNone(t, r, e, api.ErrCode)
			r, e = vm.Each(p, [2]api.Val{bad[0], bad[1]}, in...)
			wantNone(t, r, e, api.ErrCode)
		}
		if !slices.Equal(p, kept) {
			t.Fatalf("%d was written into", kept)
		}
	}
	for _, words := range []string{"", "HALT", "IN; EMIT", "PUSH 1; EMIT", "IN; STORE 0; IN; STORE 1"} {
		p := program(t, words)
		for _, v := range bad {
			// Whichever input it is, nothing of those ahead of it is told.
			for at := range len(ok) + 1 {
				r, e := vm.Each(p, both, slices.Insert(slices.Clone(ok), at, v)...)
				wantNone(t, r, e, api.ErrArg)
			}
			for _, in := range [][]api.Val{nil, {}, ok, {v}} {
				r, e := vm.Each(p, [2]api.Val{v, both[1]}, in...)
				wantNone(t, r, e, api.ErrArg)
				r, e = vm.Each(p, [2]api.Val{both[0], v}, in...)
				wantNone(t, r, e, api.ErrArg)
			}
		}
	}
}

// TestEachModel: many safe programs come to what the model says, and to what Run says input by input.
func TestEachModel(t *testing.T) {
	n := 0
	eachSafe(func(p []api.Instr) {
		n++
		c := chance(n)
		both := [2]api.Val{c.value(), c.value()}
		var in []api.Val
		for range c.below(6) {
			in = append(in, c.value())
		}
		kept := slices.Clone(in)
		got, e := vm.Each(p, both, in...)
		if want := modelOf(p, both, in...); e != api.OK || !same(got, want) {
			t.Fatalf("%q of %d with %d: %d with error %d, not %d", code.Text(p), in, both, got, e, want)
		}
		one := vm.Result{Cells: both}
		for _, v := range in {
			r, _ := vm.Run(p, v, one.Cells)
			one = vm.Result{Out: append(one.Out, r.Out...), Cells: r.Cells, Steps: one.Steps + r.Steps}
		}
		if !same(got, one) {
			t.Fatalf("%q of %d with %d: %d, not %d", code.Text(p), in, both, got, one)
		}
		if got.Steps > len(in)*len(p) || len(got.Out) > 4*len(in) || !slices.Equal(in, kept) {
			t.Fatalf("%q of %d: %d", code.Text(p), kept, got)
		}
	})
}

func TestEachMany(t *testing.T) {
	p := program(t, "IN; LOAD 0; ADD; STORE 0; LOAD 1; PUSH 1; ADD; DUP; STORE 1; EMIT; IN; DUP; EMIT; EMIT; IN; EMIT")
	const n = 100000
	in := slices.Repeat(values(t, "1-2i"), n)
	r, e := vm.Each(p, cells(t, "0 0"), in...)
	if e != api.OK || r.Steps != 16*n || len(r.Out) != 4*n || r.Cells != [2]api.Val{of(n, -2*n), of(n, 0)} {
		t.Fatal(r.Steps, len(r.Out), r.Cells, e)
	}
	for at := range n {
		if r.Out[4*at] != of(at+1, 0) || r.Out[4*at+3] != in[at] {
			t.Fatal(at, r.Out[4*at:4*at+4])
		}
	}
}

// TestEachNew: what is answered is memory of its own.
func TestEachNew(t *testing.T) {
	p, in, both := program(t, "IN; EMIT"), values(t, "1 2 3"), cells(t, "4 5")
	room := append(slices.Clone(in), values(t, "8 9")...)[:3]
	a, _ := vm.Each(p, both, room...)
	b, _ := vm.Each(p, both, room...)
	for at := range a.Out {
		a.Out[at] = value(t, "77")
	}
	_ = append(a.Out, value(t, "78"))
	if !slices.Equal(room[:5], values(t, "1 2 3 8 9")) {
		t.Fatal(room[:5])
	}
	for at := range room {
		room[at] = value(t, "66")
	}
	if !slices.Equal(b.Out, in) || code.Text(p) != "IN; EMIT" || both != cells(t, "4 5") {
		t.Fatal(b, p, both)
	}
}
