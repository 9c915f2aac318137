package code_test

import (
	"math"
	"slices"
	"testing"

	"forebay/api"
	"forebay/code"
)

// operations are all of them, with their names, and from where to where their numbers may be.
var operations = []struct {
	op          int
	name        string
	least, most int
}{
	{0, "HALT", 0, 0},
	{1, "PUSH", -524288, 524287},
	{2, "PUSHI", -524288, 524287},
	{3, "IN", 0, 0},
	{4, "LOAD", 0, 1},
	{5, "STORE", 0, 1},
	{6, "ADD", 0, 0},
	{7, "SUB", 0, 0},
	{8, "MUL", 0, 0},
	{9, "CONJ", 0, 0},
	{10, "TURN", 0, 0},
	{11, "DUP", 0, 0},
	{12, "SWAP", 0, 0},
	{13, "DROP", 0, 0},
	{14, "EMIT", 0, 0},
	{15, "JZ", 1, 24},
	{16, "JMP", 1, 24},
	{17, "LT", 0, 0},
}

// rights are all right instructions, but of a value's parts only some.
func rights() []api.Instr {
	var l []api.Instr
	for _, x := range operations {
		if x.most > 24 {
			for _, a := range []int{x.least, x.least + 1, -65537, -1000, -10, -9, -2, -1, 0, 1, 2, 9, 10, 11, 24, 25, 99, 100, 65536, x.most - 1, x.most} {
				l = append(l, api.Instr{Op: x.op, A: a})
			}
			continue
		}
		for a := x.least; a <= x.most; a++ {
			l = append(l, api.Instr{Op: x.op, A: a})
		}
	}
	return l
}

// wrongs are instructions that aren't right.
func wrongs() []api.Instr {
	var l []api.Instr
	for _, op := range []int{-1, 18, -2, 19, 256, 1 << 32, -1 << 32, 1<<32 + 3, math.MaxInt, math.MinInt} {
		for _, a := range []int{0, 1, -1, 24} {
			l = append(l, api.Instr{Op: op, A: a})
		}
	}
	for _, x := range operations {
		for _, a := range []int{x.least - 1, x.most + 1, x.least - 2, x.most + 2, x.most + 256, x.least - 1<<20, x.most + 1<<20, x.most + 1<<32, x.least - 1<<32, math.MaxInt, math.MinInt} {
			l = append(l, api.Instr{Op: x.op, A: a})
		}
	}
	return l
}

// some is a program of n right instructions, other ones for each seed.
func some(n, seed int) []api.Instr {
	all := rights()
	var p []api.Instr
	s := uint64(seed)
	for range n {
		s = s*6364136223846793005 + 1442695040888963407
		p = append(p, all[int(s>>33)%len(all)])
	}
	return p
}

// fitting are programs of all lengths, of each right instruction, and ordinary ones.
func fitting() [][]api.Instr {
	l := [][]api.Instr{
		nil,
		{},
		{{Op: code.In}, {Op: code.Emit}},
		{{Op: code.In}, {Op: code.Load}, {Op: code.Add}, {Op: code.Dup}, {Op: code.Store}, {Op: code.Emit}},
		{{Op: code.In}, {Op: code.Jz, A: 4}, {Op: code.In}, {Op: code.Emit}, {Op: code.Halt}},
		{{Op: code.Push, A: -3}, {Op: code.PushI, A: 7}, {Op: code.Add}, {Op: code.In}, {Op: code.Mul}, {Op: code.Conj}, {Op: code.Turn}, {Op: code.Emit}, {Op: code.Jmp, A: 24}},
	}
	for _, i := range rights() {
		l = append(l, []api.Instr{i}, slices.Repeat([]api.Instr{i}, 24))
	}
	for n := range 25 {
		for seed := range 20 {
			l = append(l, some(n, 100*n+seed))
		}
	}
	return l
}

// unfit are programs that are too long, or have an instruction that isn't right.
func unfit() [][]api.Instr {
	var l [][]api.Instr
	for _, n := range []int{25, 26, 48, 49, 256, 280, 1 << 16} {
		l = append(l, some(n, n), make([]api.Instr, n))
	}
	for k, i := range wrongs() {
		l = append(l, []api.Instr{i})
		for _, at := range []int{0, 1, 12, 23} {
			p := some(24, k)
			p[at] = i
			l = append(l, p)
		}
	}
	return l
}

func TestConstants(t *testing.T) {
	l := []int{
		code.Halt, code.Push, code.PushI, code.In, code.Load, code.Store, code.Add, code.Sub, code.Mul,
		code.Conj, code.Turn, code.Dup, code.Swap, code.Drop, code.Emit, code.Jz, code.Jmp, code.Lt,
	}
	if len(l) != len(operations) {
		t.Fatal(len(l))
	}
	for op, n := range l {
		if n != op || operations[op].op != op {
			t.Errorf("%s is %d, not %d", operations[op].name, n, op)
		}
	}
	// The constants have no type of their own: they are numbers of whatever kind is asked for.
	var b byte = code.Lt
	if b != 17 {
		t.Error(b)
	}
}

func TestRight(t *testing.T) {
	for _, i := range rights() {
		if !code.Right(i) {
			t.Errorf("%d isn't right", i)
		}
	}
	for _, i := range wrongs() {
		if code.Right(i) {
			t.Errorf("%d is right", i)
		}
	}
	if !code.Right(api.Instr{}) {
		t.Error("HALT isn't right")
	}
}

// TestRightNear: each operation, and those next to them, with each number near what one of them takes.
func TestRightNear(t *testing.T) {
	for op := -3; op < 21; op++ {
		for a := -30; a < 60; a++ {
			want := op >= 0 && op < len(operations) && a >= operations[op].least && a <= operations[op].most
			if got := code.Right(api.Instr{Op: op, A: a}); got != want {
				t.Errorf("operation %d with %d: %t", op, a, got)
			}
		}
	}
}

func TestFits(t *testing.T) {
	for _, p := range fitting() {
		kept := slices.Clone(p)
		if !code.Fits(p) {
			t.Errorf("%d doesn't fit", p)
		}
		if !slices.Equal(p, kept) {
			t.Fatalf("%d was written into", kept)
		}
	}
	for _, p := range unfit() {
		kept := slices.Clone(p)
		if code.Fits(p) {
			t.Errorf("%d instructions fit: %.100v", len(p), p)
		}
		if !slices.Equal(p, kept) {
			t.Fatalf("%d instructions were written into", len(kept))
		}
	}
}
