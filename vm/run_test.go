package vm_test

import (
	"slices"
	"strings"
	"testing"

	"forebay/api"
	"forebay/check"
	"forebay/code"
	"forebay/vm"
)

// run is a program's words, an input and two cells, and what comes of them.
type run struct {
	words, in, cells string
	out, behind      string
	steps            int
}

// want fails unless the run comes to what is told of it.
func (x run) want(t *testing.T) {
	t.Helper()
	want := vm.Result{Out: values(t, x.out), Cells: cells(t, x.behind), Steps: x.steps}
	got, e := vm.Run(program(t, x.words), value(t, x.in), cells(t, x.cells))
	if e != api.OK || !same(got, want) {
		t.Errorf("%q of %s with %s: %d with error %d, not %d", x.words, x.in, x.cells, got, e, want)
	}
}

// wantOut fails unless the words put out the values, with the input 3 + 4i and cells 5 - 6i and -7.
func wantOut(t *testing.T, words, out string) {
	t.Helper()
	r, e := vm.Run(program(t, words), value(t, "3+4i"), cells(t, "5-6i -7"))
	if e != api.OK || !slices.Equal(r.Out, values(t, out)) {
		t.Errorf("%q puts out %d with error %d, not %s", words, r.Out, e, out)
	}
}

// wantNone fails unless a call was refused with an error, and without a result.
func wantNone(t *testing.T, r vm.Result, e, want api.Errno) {
	t.Helper()
	if e != want || r.Out != nil || !same(r, vm.Result{}) {
		t.Errorf("%d with error %d, not %d", r, e, want)
	}
}

func TestRunOrdinary(t *testing.T) {
	for _, x := range []run{
		{"IN; EMIT", "3-1i", "1 2", "3-1i", "1 2", 2},
		{"IN; LOAD 0; ADD; DUP; STORE 0; EMIT", "3", "0 9", "3", "3 9", 6},
		{"IN; LOAD 0; ADD; DUP; STORE 0; EMIT", "4+1i", "3-5i 9", "7-4i", "7-4i 9", 6},
		// How many inputs there were, and the last one.
		{"LOAD 0; PUSH 1; ADD; DUP; STORE 0; EMIT; IN; STORE 1", "5-2i", "7 1", "8", "8 5-2i", 8},
		// The greater real part of the input and a cell.
		{"IN; LOAD 0; LT; JZ 3; LOAD 0; EMIT; HALT; IN; STORE 0; LOAD 0; EMIT", "3", "8 0", "8", "8 0", 7},
		{"IN; LOAD 0; LT; JZ 3; LOAD 0; EMIT; HALT; IN; STORE 0; LOAD 0; EMIT", "9", "8 0", "9", "9 0", 8},
		// A square, and a value times its conjugate.
		{"IN; DUP; MUL; EMIT; IN; DUP; CONJ; MUL; EMIT", "3+4i", "0 0", "-7+24i 25", "0 0", 9},
		// Nothing is put out where the input is 0.
		{"IN; JZ 2; IN; EMIT", "0", "1 2", "", "1 2", 2},
		{"IN; JZ 2; IN; EMIT", "0+1i", "1 2", "0+1i", "1 2", 4},
	} {
		x.want(t)
	}
}

// TestRunOperations: what each operation takes, where it lays what, and in which order.
func TestRunOperations(t *testing.T) {
	for _, x := range [][2]string{
		{"PUSH 9; EMIT", "9"},
		{"PUSH -9; EMIT", "-9"},
		{"PUSHI 9; EMIT", "0+9i"},
		{"PUSHI -9; EMIT", "0-9i"},
		{"PUSH 0; EMIT; PUSHI 0; EMIT", "0 0"},
		{"IN; EMIT", "3+4i"},
		{"LOAD 0; EMIT", "5-6i"},
		{"LOAD 1; EMIT", "-7"},
		{"PUSH 9; IN; EMIT; EMIT", "3+4i 9"},
		{"IN; LOAD 0; ADD; EMIT", "8-2i"},
		{"IN; LOAD 0; SUB; EMIT", "-2+10i"},
		{"LOAD 0; IN; SUB; EMIT", "2-10i"},
		{"IN; LOAD 0; MUL; EMIT", "39+2i"},
		{"PUSH 9; IN; LOAD 1; ADD; EMIT; EMIT", "-4+4i 9"},
		{"PUSH 9; IN; LOAD 1; SUB; EMIT; EMIT", "10+4i 9"},
		{"PUSH 9; IN; LOAD 1; MUL; EMIT; EMIT", "-21-28i 9"},
		{"PUSH 9; PUSH 1; PUSH 2; LT; EMIT; EMIT", "1 9"},
		{"PUSH 9; PUSH 2; PUSH 1; LT; EMIT; EMIT", "0 9"},
		{"IN; CONJ; EMIT", "3-4i"},
		{"PUSH 9; IN; CONJ; EMIT; EMIT", "3-4i 9"},
		{"IN; TURN; EMIT", "-4+3i"},
		{"PUSH 9; IN; TURN; EMIT; EMIT", "-4+3i 9"},
		{"IN; TURN; TURN; EMIT; IN; TURN; TURN; TURN; TURN; EMIT", "-3-4i 3+4i"},
		{"PUSH 9; IN; DUP; EMIT; EMIT; EMIT", "3+4i 3+4i 9"},
		// What is laid once more stays as it was.
		{"IN; DUP; TURN; EMIT; EMIT", "-4+3i 3+4i"},
		{"PUSH 1; PUSH 2; PUSH 3; SWAP; EMIT; EMIT; EMIT", "2 3 1"},
		{"PUSH 1; PUSH 2; PUSH 3; SWAP; SWAP; EMIT; EMIT; EMIT", "3 2 1"},
		{"PUSH 1; PUSH 2; PUSH 3; DROP; EMIT; EMIT", "2 1"},
		{"PUSH 1; PUSH 2; PUSH 3; EMIT; EMIT; EMIT", "3 2 1"},
		{"PUSH 9; PUSH 8; STORE 0; EMIT; LOAD 0; EMIT; LOAD 1; EMIT", "9 8 -7"},
		{"PUSH 9; PUSH 8; STORE 1; EMIT; LOAD 0; EMIT; LOAD 1; EMIT", "9 5-6i 8"},
		{"LOAD 0; LOAD 1; STORE 0; STORE 1; LOAD 0; EMIT; LOAD 1; EMIT", "-7 5-6i"},
		{"LOAD 0; IN; STORE 0; EMIT; LOAD 0; EMIT", "5-6i 3+4i"},
		{"PUSH 9; PUSH 0; JZ 2; DUP; DROP; EMIT", "9"},
		{"PUSH 9; PUSH 1; JZ 2; TURN; TURN; EMIT", "-9"},
		{"PUSH 9; JMP 2; TURN; TURN; EMIT", "9"},
		{"PUSH 9; HALT; EMIT", ""},
	} {
		wantOut(t, x[0], x[1])
	}
}

// TestRunCells: both cells, loaded and stored; what isn't stored stays.
func TestRunCells(t *testing.T) {
	for _, x := range []run{
		{"", "1", "2-3i 4+5i", "", "2-3i 4+5i", 0},
		{"IN; STORE 0", "1", "2-3i 4+5i", "", "1 4+5i", 2},
		{"IN; STORE 1", "1", "2-3i 4+5i", "", "2-3i 1", 2},
		{"IN; DUP; STORE 0; STORE 1", "1", "2-3i 4+5i", "", "1 1", 4},
		{"LOAD 0; STORE 1", "1", "2-3i 4+5i", "", "2-3i 2-3i", 2},
		{"LOAD 1; STORE 0", "1", "2-3i 4+5i", "", "4+5i 4+5i", 2},
		{"LOAD 1; LOAD 0; STORE 1; STORE 0", "1", "2-3i 4+5i", "", "4+5i 2-3i", 4},
		{"PUSH 7; STORE 0; PUSH 8; STORE 0", "1", "2-3i 4+5i", "", "8 4+5i", 4},
		{"PUSH 0; STORE 0; PUSH 0; STORE 1", "1", "2-3i 4+5i", "", "0 0", 4},
		// What is stored behind what isn't gone through isn't stored.
		{"IN; JZ 2; PUSH 7; STORE 0; PUSH 8; STORE 1", "0", "2-3i 4+5i", "", "2-3i 8", 4},
		{"IN; JZ 2; PUSH 7; STORE 0; PUSH 8; STORE 1", "1", "2-3i 4+5i", "", "7 8", 6},
	} {
		x.want(t)
	}
}

// TestRunEnds: the empty program, HALT, the end, and jumps to it and beyond it.
func TestRunEnds(t *testing.T) {
	for _, x := range []run{
		{"", "3", "1 2", "", "1 2", 0},
		{"HALT", "3", "1 2", "", "1 2", 1},
		{"HALT; HALT", "3", "1 2", "", "1 2", 1},
		{"IN; EMIT; HALT", "3", "1 2", "3", "1 2", 3},
		{"IN; HALT; EMIT", "3", "1 2", "", "1 2", 2},
		{"IN; IN; IN", "3", "1 2", "", "1 2", 3},
		{"JMP 1; HALT", "3", "1 2", "", "1 2", 1},
		{"JMP 1; HALT; IN; EMIT", "3", "1 2", "3", "1 2", 3},
		{"JMP 2; HALT; HALT; IN; EMIT", "3", "1 2", "3", "1 2", 3},
		{"JMP 1", "3", "1 2", "", "1 2", 1},
		{"JMP 24", "3", "1 2", "", "1 2", 1},
		{"JMP 2; IN; EMIT", "3", "1 2", "", "1 2", 1},
		{"JMP 3; IN; EMIT", "3", "1 2", "", "1 2", 1},
		{"JMP 24; IN; EMIT", "3", "1 2", "", "1 2", 1},
		{"JMP 1; HALT; JMP 1; HALT; IN; EMIT", "3", "1 2", "3", "1 2", 4},
		{"JMP 22; " + strings.Repeat("HALT; ", 22) + "HALT", "3", "1 2", "", "1 2", 2},
		{"JMP 23; " + strings.Repeat("HALT; ", 22) + "HALT", "3", "1 2", "", "1 2", 1},
		{strings.Repeat("IN; DROP; ", 11) + "IN; DROP", "3", "1 2", "", "1 2", 24},
	} {
		x.want(t)
	}
}

// TestRunZero: a JZ at 0 goes A places farther, at what isn't 0 to the next one.
func TestRunZero(t *testing.T) {
	for _, x := range []run{
		{"IN; JZ 2; IN; EMIT; PUSH 7; EMIT", "0", "1 2", "7", "1 2", 4},
		{"IN; JZ 2; IN; EMIT; PUSH 7; EMIT", "1", "1 2", "1 7", "1 2", 6},
		{"IN; JZ 2; IN; EMIT; PUSH 7; EMIT", "-1", "1 2", "-1 7", "1 2", 6},
		{"IN; JZ 2; IN; EMIT; PUSH 7; EMIT", "0+1i", "1 2", "0+1i 7", "1 2", 6},
		{"IN; JZ 2; IN; EMIT; PUSH 7; EMIT", "0-1i", "1 2", "0-1i 7", "1 2", 6},
		{"IN; JZ 2; IN; EMIT; PUSH 7; EMIT", "1-1i", "1 2", "1-1i 7", "1 2", 6},
		{"IN; JZ 2; IN; EMIT; PUSH 7; EMIT", "-524288", "1 2", "-524288 7", "1 2", 6},
		{"IN; JZ 2; IN; EMIT; PUSH 7; EMIT", "0-524288i", "1 2", "0-524288i 7", "1 2", 6},
		{"IN; JZ 4; IN; EMIT; PUSH 7; EMIT", "0", "1 2", "", "1 2", 2},
		{"IN; JZ 5; IN; EMIT; PUSH 7; EMIT", "0", "1 2", "", "1 2", 2},
		{"IN; JZ 24; IN; EMIT; PUSH 7; EMIT", "0", "1 2", "", "1 2", 2},
		{"IN; JZ 24; IN; EMIT; PUSH 7; EMIT", "5", "1 2", "5 7", "1 2", 6},
		{"IN; JZ 1; HALT; PUSH 7; EMIT", "0", "1 2", "7", "1 2", 4},
		{"IN; JZ 1; HALT; PUSH 7; EMIT", "5", "1 2", "", "1 2", 3},
		// It takes the top, whatever it is.
		{"IN; LOAD 0; JZ 1; TURN; EMIT", "5", "0 2", "5", "0 2", 4},
		{"IN; LOAD 0; JZ 1; TURN; EMIT", "5", "1 2", "0+5i", "1 2", 5},
		// What is reckoned to be 0 is it: round the range, too.
		{"IN; LOAD 0; ADD; JZ 2; PUSH 7; EMIT", "-524288", "-524288 2", "", "-524288 2", 4},
		{"IN; LOAD 0; MUL; JZ 2; PUSH 7; EMIT", "1024", "1024+1024i 2", "", "1024+1024i 2", 4},
		{"IN; LOAD 0; SUB; JZ 2; PUSH 7; EMIT", "1-1i", "1-1i 2", "", "1-1i 2", 4},
	} {
		x.want(t)
	}
}

// TestRunLess: LT asks the real parts alone.
func TestRunLess(t *testing.T) {
	for _, x := range []struct{ x, y, less string }{
		{"1", "2", "1"},
		{"2", "1", "0"},
		{"1", "1", "0"},
		{"-1", "0", "1"},
		{"0", "-1", "0"},
		{"-2", "-1", "1"},
		{"1+9i", "2-9i", "1"},
		{"1-9i", "2+9i", "1"},
		{"2-9i", "1+9i", "0"},
		{"1+1i", "1+2i", "0"},
		{"1+2i", "1+1i", "0"},
		{"1-2i", "1-2i", "0"},
		{"0", "0", "0"},
		{"-524288", "524287", "1"},
		{"524287", "-524288", "0"},
		{"-524288", "-524287", "1"},
		{"524286", "524287", "1"},
		{"524287", "524286", "0"},
		{"0-524288i", "0+524287i", "0"},
	} {
		run{"LOAD 0; LOAD 1; LT; EMIT", "9", x.x + " " + x.y, x.less, x.x + " " + x.y, 4}.want(t)
	}
	// One, and itself.
	for _, v := range []string{"0", "3-1i", "-524288+524287i", "524287-524288i"} {
		run{"IN; DUP; LT; EMIT", v, "1 2", "0", "1 2", 4}.want(t)
	}
}

// TestRunRound: values at the ends of what is right, and what goes round.
func TestRunRound(t *testing.T) {
	for _, x := range []run{
		{"IN; EMIT", "524287-524288i", "1 2", "524287-524288i", "1 2", 2},
		{"IN; EMIT", "-524288+524287i", "1 2", "-524288+524287i", "1 2", 2},
		{"LOAD 0; EMIT; LOAD 1; EMIT", "0", "-524288-524288i 524287+524287i", "-524288-524288i 524287+524287i", "-524288-524288i 524287+524287i", 4},
		{"PUSH 524287; EMIT; PUSH -524288; EMIT; PUSHI 524287; EMIT; PUSHI -524288; EMIT", "0", "1 2", "524287 -524288 0+524287i 0-524288i", "1 2", 8},
		{"IN; PUSH 1; ADD; EMIT", "524287+524287i", "1 2", "-524288+524287i", "1 2", 4},
		{"IN; PUSHI 1; ADD; EMIT", "524287+524287i", "1 2", "524287-524288i", "1 2", 4},
		{"IN; PUSH 1; SUB; EMIT", "-524288-524288i", "1 2", "524287-524288i", "1 2", 4},
		{"IN; DUP; ADD; STORE 0", "-524288+524287i", "1 2", "", "0-2i 2", 4},
		{"IN; DUP; MUL; EMIT", "524287+524287i", "1 2", "0+2i", "1 2", 4},
		{"IN; DUP; MUL; EMIT", "524287-524288i", "1 2", "1", "1 2", 4},
		{"IN; LOAD 0; MUL; EMIT", "524287+524286i", "524285-524284i 2", "11+2i", "524285-524284i 2", 4},
		{"IN; CONJ; EMIT", "524287-524288i", "1 2", "524287-524288i", "1 2", 3},
		{"IN; TURN; EMIT", "524287-524288i", "1 2", "-524288+524287i", "1 2", 3},
		{"PUSH 0; IN; SUB; EMIT", "-524288+524287i", "1 2", "-524288-524287i", "1 2", 4},
	} {
		x.want(t)
	}
}

// TestRunNever: instructions that can't be come to neither do anything nor count.
func TestRunNever(t *testing.T) {
	for _, x := range []run{
		{"IN; EMIT; HALT; LOAD 0; STORE 1; EMIT", "3", "1 2", "3", "1 2", 3},
		{"JMP 2; PUSH 7; STORE 0; IN; EMIT", "3", "1 2", "3", "1 2", 3},
		{"HALT; EMIT; EMIT; ADD; SWAP; DROP", "3", "1 2", "", "1 2", 1},
		{"JMP 1; ADD; IN; EMIT", "3", "1 2", "3", "1 2", 3},
		{"JMP 24; EMIT", "3", "1 2", "", "1 2", 1},
		{"IN; JZ 2; JMP 4; EMIT; JMP 2; EMIT; DUP", "0", "1 2", "", "1 2", 3},
		{"IN; JZ 2; JMP 4; EMIT; JMP 2; EMIT; DUP", "1", "1 2", "", "1 2", 3},
	} {
		x.want(t)
	}
}

func TestRunFour(t *testing.T) {
	for _, x := range []run{
		{"PUSH 1; EMIT; PUSH 2; EMIT; PUSH 3; EMIT; PUSH 4; EMIT", "9", "5 6", "1 2 3 4", "5 6", 8},
		{"PUSH 1; PUSH 2; PUSH 3; PUSH 4; EMIT; EMIT; EMIT; EMIT", "9", "5 6", "4 3 2 1", "5 6", 8},
		{"IN; DUP; EMIT; DUP; EMIT; DUP; EMIT; EMIT", "9-1i", "5 6", "9-1i 9-1i 9-1i 9-1i", "5 6", 8},
		// Eight are in the program, four on each way.
		{"IN; JZ 9; IN; EMIT; IN; EMIT; IN; EMIT; IN; EMIT; JMP 8; PUSH 1; EMIT; PUSH 2; EMIT; PUSH 3; EMIT; PUSH 4; EMIT", "9", "5 6", "9 9 9 9", "5 6", 11},
		{"IN; JZ 9; IN; EMIT; IN; EMIT; IN; EMIT; IN; EMIT; JMP 8; PUSH 1; EMIT; PUSH 2; EMIT; PUSH 3; EMIT; PUSH 4; EMIT", "0", "5 6", "1 2 3 4", "5 6", 10},
	} {
		x.want(t)
	}
}

// TestRunStack: a stack of eight, laid and taken in order.
func TestRunStack(t *testing.T) {
	run{"PUSH 1; PUSH 2; PUSH 3; PUSH 4; PUSH 5; PUSH 6; PUSH 7; PUSH 8; STORE 0; STORE 1; EMIT; EMIT; EMIT; SUB; SUB; EMIT", "9", "5 6", "6 5 4 2", "8 7", 16}.want(t)
	run{"PUSH 1; PUSH 2; PUSH 4; PUSH 8; PUSH 16; PUSH 32; PUSH 64; PUSH 128; ADD; ADD; ADD; ADD; ADD; ADD; ADD; EMIT", "9", "5 6", "255", "5 6", 16}.want(t)
	run{"PUSH 1; PUSH 2; PUSH 4; PUSH 8; PUSH 16; PUSH 32; PUSH 64; PUSH 128; SUB; SUB; SUB; SUB; SUB; SUB; SUB; EMIT", "9", "5 6", "-85", "5 6", 16}.want(t)
}

// TestRunRefused: a program that isn't safe is asked for first, then the values.
func TestRunRefused(t *testing.T) {
	ok, both := value(t, "3-1i"), cells(t, "1 2")
	bad := wrong()
	for _, p := range unsafe(t) {
		kept := slices.Clone(p)
		r, e := vm.Run(p, ok, both)
		wantNone(t, r, e, api.ErrCode)
		r, e = vm.Run(p, bad[0], both)
		wantNone(t, r, e, api.ErrCode)
		r, e = vm.Run(p, ok, [2]api.Val{bad[0], bad[1]})
		wantNone(t, r, e, api.ErrCode)
		if !slices.Equal(p, kept) {
			t.Fatalf("%d was written into", kept)
		}
	}
	for _, words := range []string{"", "HALT", "IN; EMIT", "PUSH 1; EMIT", "LOAD 0; EMIT", "LOAD 1; STORE 0", "IN; STORE 0; IN; STORE 1"} {
		p := program(t, words)
		for _, v := range bad {
			// Whether the program uses it, or not.
			r, e := vm.Run(p, v, both)
			wantNone(t, r, e, api.ErrArg)
			r, e = vm.Run(p, ok, [2]api.Val{v, both[1]})
			wantNone(t, r, e, api.ErrArg)
			r, e = vm.Run(p, ok, [2]api.Val{both[0], v})
			wantNone(t, r, e, api.ErrArg)
			r, e = vm.Run(p, v, [2]api.Val{v, v})
			wantNone(t, r, e, api.ErrArg)
		}
	}
}

// TestModel: many safe programs come to what the model says, within their bounds.
func TestModel(t *testing.T) {
	n := 0
	most, longest := 0, 0
	eachSafe(func(p []api.Instr) {
		n++
		kept := slices.Clone(p)
		c := chance(n)
		for range 3 {
			in, both := c.value(), [2]api.Val{c.value(), c.value()}
			got, e := vm.Run(p, in, both)
			if want := modelOf(p, both, in); e != api.OK || !same(got, want) {
				t.Fatalf("%q of %d with %d: %d with error %d, not %d", code.Text(p), in, both, got, e, want)
			}
			if got.Steps > len(p) || len(got.Out) > 4 {
				t.Fatalf("%q: %d", code.Text(p), got)
			}
			most, longest = max(most, len(got.Out)), max(longest, got.Steps)
		}
		if !slices.Equal(p, kept) {
			t.Fatalf("%q was written into", code.Text(kept))
		}
	})
	if n < 5000 || most < 4 || longest < 20 {
		t.Errorf("only %d programs, of which none puts out more than %d, or has more than %d steps", n, most, longest)
	}
}

// TestRunTrimmed: a program does what it did without the instructions that can't be come to, in no more steps.
func TestRunTrimmed(t *testing.T) {
	n := 0
	eachSafe(func(p []api.Instr) {
		q, e := check.Trim(p)
		if e != api.OK || len(q) == len(p) {
			return
		}
		n++
		c := chance(n)
		in, both := c.value(), [2]api.Val{c.value(), c.value()}
		a, _ := vm.Run(p, in, both)
		b, e := vm.Run(q, in, both)
		if e != api.OK || !slices.Equal(a.Out, b.Out) || a.Cells != b.Cells || b.Steps > a.Steps {
			t.Fatalf("%q: %d, %q: %d with error %d", code.Text(p), a, code.Text(q), b, e)
		}
	})
	if n < 1000 {
		t.Errorf("only %d programs are trimmed", n)
	}
}

// TestRunNew: what is answered is memory of its own.
func TestRunNew(t *testing.T) {
	p := program(t, "IN; EMIT; LOAD 0; EMIT; LOAD 1; EMIT; IN; STORE 0")
	in, both := value(t, "3"), cells(t, "1 2")
	a, _ := vm.Run(p, in, both)
	b, _ := vm.Run(p, in, both)
	for at := range a.Out {
		a.Out[at] = value(t, "77")
	}
	_ = append(a.Out[:1], value(t, "78"), value(t, "79"))
	a.Cells[0] = value(t, "77")
	c, _ := vm.Run(p, in, both)
	want := vm.Result{Out: values(t, "3 1 2"), Cells: cells(t, "3 2"), Steps: 8}
	if !same(b, want) || !same(c, want) || both != cells(t, "1 2") {
		t.Fatal(b, c, both)
	}
}
