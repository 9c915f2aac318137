package check_test

import (
	"maps"
	"slices"
	"testing"

	"forebay/api"
	"forebay/check"
	"forebay/code"
)

func TestTrimKnown(t *testing.T) {
	for _, x := range []struct {
		words, want string
	}{
		// All can be come to, and no jump leads over nothing: it stays as it is.
		{"", ""},
		{"HALT", "HALT"},
		{"IN; EMIT", "IN; EMIT"},
		{"IN; EMIT; HALT", "IN; EMIT; HALT"},
		{"IN; LOAD 0; ADD; DUP; STORE 0; EMIT", "IN; LOAD 0; ADD; DUP; STORE 0; EMIT"},
		{"IN; JZ 2; PUSH 3; EMIT; PUSHI -4; EMIT", "IN; JZ 2; PUSH 3; EMIT; PUSHI -4; EMIT"},
		{"IN; JZ 1; HALT; IN; EMIT", "IN; JZ 1; HALT; IN; EMIT"},
		{"IN; JZ 3; IN; EMIT; JMP 1; HALT; IN", "IN; JZ 3; IN; EMIT; JMP 1; HALT; IN"},

		// What can't be come to.
		{"IN; EMIT; HALT; IN; EMIT", "IN; EMIT; HALT"},
		{"HALT; IN; EMIT", "HALT"},
		{"HALT; HALT; JMP 1; JZ 4", "HALT"},
		{"IN; JZ 2; HALT; IN; IN; EMIT", "IN; JZ 1; HALT; IN; EMIT"},
		{"IN; JZ 4; IN; HALT; ADD; LOAD 1; IN; EMIT", "IN; JZ 2; IN; HALT; IN; EMIT"},

		// Jumps that lead over none that stays.
		{"JMP 1; HALT", ""},
		{"JMP 1", ""},
		{"JMP 24; IN; EMIT", ""},
		{"JMP 1; HALT; IN; EMIT", "IN; EMIT"},
		{"JMP 3; HALT; LOAD 0; EMIT; IN; EMIT", "IN; EMIT"},
		{"JMP 1; HALT; JMP 1; HALT; IN", "IN"},
		{"IN; EMIT; JMP 1", "IN; EMIT"},
		{"IN; EMIT; JMP 24; HALT", "IN; EMIT"},
		{"IN; JZ 1", "IN; DROP"},
		{"IN; JZ 24", "IN; DROP"},
		{"IN; IN; JZ 2; JMP 1; HALT; EMIT", "IN; IN; DROP; EMIT"},
		{"IN; JZ 1; JMP 1; HALT", "IN; JZ 1; JMP 1; HALT"},
		{"IN; JZ 2; JMP 9; HALT", "IN; DROP"},

		// One that is left out makes another one lead over none.
		{"JMP 2; HALT; HALT; JMP 1; HALT; IN", "IN"},
		{"IN; DUP; JZ 4; JMP 3; HALT; HALT; JMP 1; EMIT", "IN; DUP; DROP; EMIT"},
		{"IN; JZ 2; JMP 3; HALT; JMP 1; HALT; IN; EMIT", "IN; DROP; IN; EMIT"},
		{"IN; JZ 1; JMP 3; JMP 2; HALT; HALT; IN", "IN; DROP; IN"},
		{"IN; JZ 5; IN; JZ 1; JMP 2; JMP 1; HALT; IN", "IN; JZ 2; IN; DROP; IN"},
		{"IN; JZ 1; JMP 2; JMP 1; HALT; IN; EMIT", "IN; DROP; IN; EMIT"},

		// Over some that stay, and some that don't.
		{"IN; JZ 4; IN; EMIT; JMP 2; LOAD 0; HALT; IN; EMIT", "IN; JZ 3; IN; EMIT; JMP 1; HALT; IN; EMIT"},
		{"IN; JZ 5; IN; EMIT; JMP 4; LOAD 0; HALT; PUSH 7; EMIT", "IN; JZ 3; IN; EMIT; JMP 2; PUSH 7; EMIT"},
		{"IN; JZ 24; IN; EMIT; HALT; IN", "IN; JZ 3; IN; EMIT; HALT"},
		{"IN; JZ 2; JMP 24; HALT; IN; EMIT", "IN; JZ 1; JMP 2; IN; EMIT"},
		// To one that is left out: they lead to where it led.
		{"IN; JZ 3; IN; EMIT; HALT; JMP 1; HALT; PUSH 7; EMIT", "IN; JZ 3; IN; EMIT; HALT; PUSH 7; EMIT"},
		{"IN; JZ 2; IN; EMIT; JMP 1", "IN; JZ 2; IN; EMIT"},
	} {
		p := program(t, x.words)
		q, e := check.Trim(p)
		if code.Text(q) != x.want || e != api.OK {
			t.Errorf("%q: %q with error %d, not %q", x.words, code.Text(q), e, x.want)
		}
	}
}

// TestTrimModel: many programs are trimmed as they are, step by step, by nodes that lead to nodes.
func TestTrimModel(t *testing.T) {
	less, dropped := 0, 0
	each(func(p []api.Instr) {
		if _, e := modelOf(p); e != api.OK {
			return
		}
		kept := slices.Clone(p)
		want := trimOf(p)
		q, e := check.Trim(p)
		if e != api.OK || !slices.Equal(q, want) {
			t.Fatalf("%q: %q with error %d, not %q", code.Text(p), code.Text(q), e, code.Text(want))
		}
		if !slices.Equal(p, kept) {
			t.Fatalf("%q was written into", code.Text(kept))
		}
		if len(q) < len(p) {
			less++
		}
		if drops(q) > drops(p) {
			dropped++
		}
	})
	if less < 1000 || dropped < 1000 {
		t.Errorf("only %d programs were trimmed, and only %d have a JZ that is a DROP", less, dropped)
	}
}

// drops is how many DROPs that are come to a program has.
func drops(p []api.Instr) int {
	n := 0
	r, _ := check.Check(p)
	for at, i := range p {
		if i.Op == code.Drop && r.Depth[at] >= 0 {
			n++
		}
	}
	return n
}

// TestTrimWays: what is trimmed is safe, does the same on the same ways, and is, trimmed again, the same.
func TestTrimWays(t *testing.T) {
	each(func(p []api.Instr) {
		before, e := check.Check(p)
		if e != api.OK {
			return
		}
		q, e := check.Trim(p)
		if e != api.OK {
			t.Fatal(p, e)
		}
		behind, e := check.Check(q)
		if e != api.OK || behind.Max != before.Max || behind.Emits != before.Emits || behind.Uses != before.Uses {
			t.Fatalf("%q, trimmed %q: %+v with error %d, not %+v", code.Text(p), code.Text(q), behind, e, before)
		}
		if slices.Contains(behind.Depth, -1) {
			t.Fatalf("%q, trimmed %q: %+v", code.Text(p), code.Text(q), behind)
		}
		if !maps.Equal(waysOf(p), waysOf(q)) {
			t.Fatalf("%q, trimmed %q, does something else", code.Text(p), code.Text(q))
		}
		again, e := check.Trim(q)
		if e != api.OK || !slices.Equal(again, q) {
			t.Fatalf("%q, trimmed twice, is %q with error %d", code.Text(q), code.Text(again), e)
		}
	})
}

// TestTrimNew: what is answered is memory of its own.
func TestTrimNew(t *testing.T) {
	for _, words := range []string{"IN; EMIT", "IN; JZ 1; HALT; IN; EMIT", "JMP 1; HALT; IN; EMIT", "IN; JZ 1"} {
		p := program(t, words)
		a, _ := check.Trim(p)
		b, _ := check.Trim(p)
		want := slices.Clone(b)
		for at := range a {
			a[at] = api.Instr{Op: 77}
		}
		_ = append(a[:0], make([]api.Instr, cap(a))...)
		c, _ := check.Trim(p)
		if !slices.Equal(b, want) || !slices.Equal(c, want) || code.Text(p) != words {
			t.Fatal(words, b, c, p)
		}
	}
}
