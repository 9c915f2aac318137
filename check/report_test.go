package check_test

import (
	"math"
	"slices"
	"strings"
	"testing"

	"forebay/api"
	"forebay/check"
	"forebay/code"
)

// wantReport fails unless Check answers the report, and Safe yes.
func wantReport(t *testing.T, words string, want check.Report) {
	t.Helper()
	p := program(t, words)
	got, e := check.Check(p)
	if e != api.OK || !same(got, want) {
		t.Errorf("%q: %+v with error %d, not %+v", words, got, e, want)
	}
	if !check.Safe(p) {
		t.Errorf("%q isn't safe", words)
	}
}

// wantRefused fails unless the program is told not to be safe by all.
func wantRefused(t *testing.T, p []api.Instr) {
	t.Helper()
	if r, e := check.Check(p); e != api.ErrCode || r.Depth != nil || !same(r, check.Report{}) {
		t.Errorf("Check of %d: %+v with error %d", p, r, e)
	}
	if check.Safe(p) {
		t.Errorf("%d is safe", p)
	}
	if check.Passes(p) {
		t.Errorf("%d passes", p)
	}
	if q, e := check.Trim(p); e != api.ErrCode || q != nil {
		t.Errorf("Trim of %d: %d with error %d", p, q, e)
	}
}

// many are words, n times.
func many(words string, n int) string {
	return strings.Join(slices.Repeat([]string{words}, n), "; ")
}

func TestCheckOrdinary(t *testing.T) {
	for _, x := range []struct {
		words string
		want  check.Report
	}{
		{"", check.Report{}},
		{"HALT", check.Report{Depth: []int{0}}},
		{"IN", check.Report{Depth: []int{0}, Max: 1}},
		{"IN; EMIT", check.Report{Depth: []int{0, 1}, Max: 1, Emits: 1}},
		{"IN; LOAD 0; ADD; DUP; STORE 0; EMIT", check.Report{Depth: []int{0, 1, 2, 1, 2, 1}, Max: 2, Emits: 1, Uses: [2]bool{true, false}}},
		{"LOAD 1; DROP", check.Report{Depth: []int{0, 1}, Max: 1, Uses: [2]bool{false, true}}},
		{"IN; STORE 1", check.Report{Depth: []int{0, 1}, Max: 1, Uses: [2]bool{false, true}}},
		{"IN; STORE 0; LOAD 1; EMIT", check.Report{Depth: []int{0, 1, 0, 1}, Max: 1, Emits: 1, Uses: [2]bool{true, true}}},
		{"IN; PUSH 3; LT; JZ 2; IN; EMIT; HALT", check.Report{Depth: []int{0, 1, 2, 1, 0, 1, 0}, Max: 2, Emits: 1}},
		{"IN; IN; SWAP; PUSHI 1; MUL; CONJ; TURN; SUB; EMIT", check.Report{Depth: []int{0, 1, 2, 2, 3, 2, 2, 2, 1}, Max: 3, Emits: 1}},
		// At the end, and at HALT, the depth may be any.
		{"IN; IN; IN", check.Report{Depth: []int{0, 1, 2}, Max: 3}},
		{"IN; JZ 2; IN; HALT; IN; IN; HALT", check.Report{Depth: []int{0, 1, 0, 1, 0, 1, 2}, Max: 2}},
		{"IN; JZ 1; IN", check.Report{Depth: []int{0, 1, 0}, Max: 1}},
	} {
		wantReport(t, x.words, x.want)
	}
}

// TestCheckEffects: what each operation takes and leaves, on a stack of any depth.
func TestCheckEffects(t *testing.T) {
	for _, i := range alphabet() {
		takes, leaves := stackOf[nameOf(i)][0], stackOf[nameOf(i)][1]
		for depth := range 9 {
			p := append(slices.Repeat([]api.Instr{{Op: code.In}}, depth), i, api.Instr{})
			left := depth - takes + leaves
			if depth < takes || left > 8 {
				wantRefused(t, p)
				continue
			}
			r, e := check.Check(p)
			if e != api.OK {
				t.Errorf("%s isn't safe at %d", nameOf(i), depth)
				continue
			}
			want := left
			if i.Op == code.Halt || i.Op == code.Jmp {
				want = -1
			}
			if r.Depth[depth] != depth || r.Depth[depth+1] != want || r.Max != max(depth, left) {
				t.Errorf("%s is come to with %d, and leads on: %+v", nameOf(i), depth, r)
			}
		}
	}
}

func TestCheckStack(t *testing.T) {
	wantReport(t, many("PUSH 1", 8), check.Report{Depth: []int{0, 1, 2, 3, 4, 5, 6, 7}, Max: 8})
	wantReport(t, many("PUSH 1", 8)+"; SWAP; STORE 0; IN", check.Report{Depth: []int{0, 1, 2, 3, 4, 5, 6, 7, 8, 8, 7}, Max: 8, Uses: [2]bool{true, false}})
	wantReport(t, "IN; "+many("DUP", 7)+"; "+many("ADD", 7), check.Report{Depth: []int{0, 1, 2, 3, 4, 5, 6, 7, 8, 7, 6, 5, 4, 3, 2}, Max: 8})
	wantRefused(t, program(t, many("PUSH 1", 9)))
	wantRefused(t, program(t, many("PUSH 1", 9)+"; DROP"))
	for _, more := range []string{"PUSH 0", "PUSHI 0", "IN", "LOAD 0", "LOAD 1", "DUP"} {
		wantRefused(t, program(t, many("IN", 8)+"; "+more))
	}
	for _, few := range []string{
		"STORE 0", "DROP", "EMIT", "JZ 1", "JZ 24", "ADD", "SUB", "MUL", "LT", "CONJ", "TURN", "DUP", "SWAP",
		"IN; ADD", "IN; SUB", "IN; MUL", "IN; LT", "IN; SWAP", "IN; EMIT; EMIT", "IN; DROP; DUP",
	} {
		wantRefused(t, program(t, few))
	}
}

func TestCheckEmits(t *testing.T) {
	for n := range 5 {
		words := strings.TrimPrefix("; "+many("IN; EMIT", n), "; ")
		if r, e := check.Check(program(t, words)); e != api.OK || r.Emits != n {
			t.Errorf("%q: %+v with error %d", words, r, e)
		}
	}
	for n := 5; n <= 12; n++ {
		wantRefused(t, program(t, many("IN; EMIT", n)))
	}
	// Each of both ways has four: they are eight in all.
	both := "IN; JZ 9; " + many("IN; EMIT", 4) + "; JMP 8; " + many("IN; EMIT", 4)
	r, e := check.Check(program(t, both))
	if e != api.OK || r.Emits != 4 || !slices.Equal(r.Depth, []int{0, 1, 0, 1, 0, 1, 0, 1, 0, 1, 0, 0, 1, 0, 1, 0, 1, 0, 1}) {
		t.Errorf("%q: %+v with error %d", both, r, e)
	}
	wantRefused(t, program(t, both+"; IN; EMIT"))
	// The way with most EMITs counts, whichever of both it is.
	wantReport(t, "IN; JZ 2; IN; EMIT; IN; EMIT", check.Report{Depth: []int{0, 1, 0, 1, 0, 1}, Max: 1, Emits: 2})
	wantReport(t, "IN; JZ 3; IN; EMIT; HALT; "+many("IN; EMIT", 3), check.Report{Depth: []int{0, 1, 0, 1, 0, 0, 1, 0, 1, 0, 1}, Max: 1, Emits: 3})
	wantReport(t, "IN; JZ 7; "+many("IN; EMIT", 3)+"; HALT; IN; EMIT", check.Report{Depth: []int{0, 1, 0, 1, 0, 1, 0, 1, 0, 0, 1}, Max: 1, Emits: 3})
	// The way with five is refused, whichever of both it is, though what the JZ takes may never lead there.
	wantRefused(t, program(t, "PUSH 0; JZ 10; "+many("IN; EMIT", 5)))
	wantRefused(t, program(t, "PUSH 1; JZ 1; HALT; "+many("IN; EMIT", 5)))
	wantRefused(t, program(t, many("IN; EMIT", 4)+"; IN; JZ 1; HALT; IN; EMIT"))
}

func TestCheckJumps(t *testing.T) {
	for _, x := range []struct {
		words string
		depth []int
	}{
		// A jump leads A and one places on.
		{"JMP 1; HALT; IN", []int{0, -1, 0}},
		{"JMP 2; HALT; HALT; IN", []int{0, -1, -1, 0}},
		{"IN; JZ 1; IN", []int{0, 1, 0}},
		{"IN; JZ 1; CONJ; HALT", nil},
		{"IN; DUP; JZ 1; HALT; DROP", []int{0, 1, 2, 1, 1}},
		// To the end, and beyond it.
		{"JMP 1; HALT", []int{0, -1}},
		{"JMP 2; HALT", []int{0, -1}},
		{"JMP 1", []int{0}},
		{"JMP 24", []int{0}},
		{"IN; JZ 1", []int{0, 1}},
		{"IN; JZ 24", []int{0, 1}},
		{"IN; JZ 1; IN; EMIT", nil},
		{"IN; JZ 2; IN; EMIT", []int{0, 1, 0, 1}},
		{"IN; JZ 3; IN; EMIT", []int{0, 1, 0, 1}},
		{"JMP 24; " + many("HALT", 23), append([]int{0}, slices.Repeat([]int{-1}, 23)...)},
		{"JMP 22; " + many("HALT", 22) + "; IN", append(append([]int{0}, slices.Repeat([]int{-1}, 22)...), 0)},
		// Over HALT and JMP.
		{"IN; JZ 1; HALT; IN; EMIT", []int{0, 1, 0, 0, 1}},
		{"IN; JZ 1; JMP 1; IN; HALT", nil},
		{"IN; JZ 1; JMP 1; HALT; HALT", []int{0, 1, 0, 0, 0}},
		{"IN; JZ 1; JMP 2; HALT; HALT; IN", []int{0, 1, 0, 0, -1, 0}},
		{"JMP 2; HALT; JMP 9; IN", []int{0, -1, -1, 0}},
		{"JMP 1; HALT; JMP 1; HALT; IN", []int{0, -1, 0, -1, 0}},
	} {
		p := program(t, x.words)
		if x.depth == nil {
			wantRefused(t, p)
			continue
		}
		if r, e := check.Check(p); e != api.OK || !slices.Equal(r.Depth, x.depth) {
			t.Errorf("%q: %+v with error %d, not %d", x.words, r, e, x.depth)
		}
	}
}

// TestCheckTwoDepths: two ways come to an instruction with two depths.
func TestCheckTwoDepths(t *testing.T) {
	for _, words := range []string{
		"IN; JZ 1; IN; IN",
		"IN; JZ 1; IN; IN; HALT",
		"IN; DUP; JZ 1; IN; EMIT",
		"IN; IN; JZ 1; DROP; IN",
		"IN; JZ 2; IN; JMP 1; HALT; IN; IN; JZ 1; IN; IN",
		// Even where each of the depths would do for all that is behind.
		"IN; IN; DUP; JZ 1; DROP; DROP",
		// HALT and JMP are instructions: they too are come to with one depth.
		"IN; JZ 1; IN; HALT",
		"IN; JZ 1; IN; JMP 1; IN",
		"IN; JZ 1; IN; JMP 24",
	} {
		wantRefused(t, program(t, words))
	}
	// The end is none.
	wantReport(t, "IN; JZ 2; IN; IN", check.Report{Depth: []int{0, 1, 0, 1}, Max: 2})
	// Two ways that come to it with one depth.
	wantReport(t, "IN; JZ 2; IN; JMP 1; IN; DROP", check.Report{Depth: []int{0, 1, 0, 1, 0, 1}, Max: 1})
}

// TestCheckNever: what can't be come to counts neither with its depth, nor with its cells, nor with its EMITs.
func TestCheckNever(t *testing.T) {
	wantReport(t, "IN; EMIT; HALT; LOAD 0; STORE 1; EMIT", check.Report{Depth: []int{0, 1, 0, -1, -1, -1}, Max: 1, Emits: 1})
	wantReport(t, "HALT; "+many("EMIT", 9), check.Report{Depth: append([]int{0}, slices.Repeat([]int{-1}, 9)...)})
	wantReport(t, "HALT; "+many("IN", 23), check.Report{Depth: append([]int{0}, slices.Repeat([]int{-1}, 23)...)})
	wantReport(t, "JMP 3; LOAD 0; STORE 0; EMIT; LOAD 1; EMIT", check.Report{Depth: []int{0, -1, -1, -1, 0, 1}, Max: 1, Emits: 1, Uses: [2]bool{false, true}})
	// Nor does where its jumps lead.
	wantReport(t, "JMP 2; IN; JZ 1; IN; EMIT", check.Report{Depth: []int{0, -1, -1, 0, 1}, Max: 1, Emits: 1})
	wantReport(t, "JMP 1; JMP 1; IN; EMIT", check.Report{Depth: []int{0, -1, 0, 1}, Max: 1, Emits: 1})
	wantReport(t, "HALT; JMP 1; HALT; IN", check.Report{Depth: []int{0, -1, -1, -1}})
}

func TestCheckLength(t *testing.T) {
	for _, words := range []string{many("HALT", 24), many("IN; DROP", 12), many("IN", 8) + "; " + many("CONJ", 16)} {
		p := program(t, words)
		if len(p) != 24 || !check.Safe(p) {
			t.Errorf("%q isn't safe", words)
		}
		wantRefused(t, append(p, api.Instr{Op: code.Halt}))
	}
}

func TestRefused(t *testing.T) {
	for _, p := range unfit() {
		kept := slices.Clone(p)
		wantRefused(t, p)
		if !slices.Equal(p, kept) {
			t.Fatalf("%d instructions were written into", len(kept))
		}
	}
	for _, n := range []int{math.MaxInt, math.MinInt} {
		for op := range 18 {
			wantRefused(t, []api.Instr{{Op: code.Halt}, {Op: op, A: n}})
		}
		wantRefused(t, []api.Instr{{Op: n}})
	}
}

func TestPasses(t *testing.T) {
	for words, want := range map[string]bool{
		"":                             true,
		"HALT":                         true,
		"IN; EMIT":                     true,
		"EMIT":                         false,
		"LOAD 0":                       false,
		"LOAD 1":                       false,
		"IN; STORE 0":                  false,
		"IN; STORE 1; IN; EMIT":        false,
		"IN; LOAD 0; LOAD 1; ADD":      false,
		"IN; JZ 1; LOAD 1":             false,
		"IN; EMIT; HALT; LOAD 0":       true,
		"IN; EMIT; HALT; STORE 1":      true,
		"JMP 1; LOAD 1; IN; EMIT":      true,
		"JMP 1; STORE 0; IN; EMIT":     true,
		"JMP 1; STORE 0; IN; STORE 1":  false,
		"IN; JZ 1; HALT; IN; STORE 0":  false,
		"JMP 24; LOAD 0; LOAD 1":       true,
		"JMP 1; LOAD 0; EMIT":          false,
		"IN; EMIT; JMP 2; LOAD 0; DUP": true,
	} {
		if got := check.Passes(program(t, words)); got != want {
			t.Errorf("%q: %t", words, got)
		}
	}
}

// TestModel: many programs are told as they are, gone through way by way.
func TestModel(t *testing.T) {
	safe, n := 0, 0
	each(func(p []api.Instr) {
		n++
		want, e := modelOf(p)
		if e != api.OK {
			wantRefused(t, p)
			return
		}
		safe++
		kept := slices.Clone(p)
		got, e := check.Check(p)
		if e != api.OK || !same(got, want) {
			t.Fatalf("%q: %+v with error %d, not %+v", code.Text(p), got, e, want)
		}
		if !check.Safe(p) {
			t.Fatalf("%q isn't safe", code.Text(p))
		}
		if got := check.Passes(p); got != (want.Uses == [2]bool{}) {
			t.Fatalf("%q passes: %t", code.Text(p), got)
		}
		if !slices.Equal(p, kept) {
			t.Fatalf("%q was written into", code.Text(kept))
		}
	})
	if safe < n/20 || safe > n-n/20 {
		t.Errorf("only %d of %d programs are safe, or only so many aren't", safe, n)
	}
}

// TestCheckNew: what is answered is memory of its own.
func TestCheckNew(t *testing.T) {
	p := program(t, "IN; JZ 1; HALT; IN; EMIT")
	a, _ := check.Check(p)
	b, _ := check.Check(p)
	for at := range a.Depth {
		a.Depth[at] = 77
	}
	c, _ := check.Check(p)
	want := []int{0, 1, 0, 0, 1}
	if !slices.Equal(b.Depth, want) || !slices.Equal(c.Depth, want) || code.Text(p) != "IN; JZ 1; HALT; IN; EMIT" {
		t.Fatal(b, c, p)
	}
}
