package vm_test

import (
	"slices"
	"strings"
	"testing"

	"forebay/api"
	"forebay/check"
	"forebay/code"
	"forebay/gauss"
	"forebay/vm"
)

// program is the program of words.
func program(t *testing.T, words string) []api.Instr {
	t.Helper()
	p, e := code.Parse(words)
	if e != api.OK {
		t.Fatalf("%q are no words of a program", words)
	}
	return p
}

// values are the values of texts, parted by blanks; "+0i" may be left out.
func values(t *testing.T, texts string) []api.Val {
	t.Helper()
	var l []api.Val
	for _, s := range strings.Fields(texts) {
		if !strings.HasSuffix(s, "i") {
			s += "+0i"
		}
		v, e := gauss.Parse(s)
		if e != api.OK {
			t.Fatalf("%q is no value's text", s)
		}
		l = append(l, v)
	}
	return l
}

// value is the value of a text.
func value(t *testing.T, text string) api.Val {
	t.Helper()
	return values(t, text)[0]
}

// cells are the two cells of texts.
func cells(t *testing.T, texts string) [2]api.Val {
	t.Helper()
	return [2]api.Val(values(t, texts))
}

// same tells whether two results are one.
func same(a, b vm.Result) bool {
	return slices.Equal(a.Out, b.Out) && a.Cells == b.Cells && a.Steps == b.Steps
}

// part takes a number modulo 2^20 into the range of a value's part.
func part(n int) int {
	for n %= 1 << 20; n >= 1<<19; {
		n -= 1 << 20
	}
	for n < -1<<19 {
		n += 1 << 20
	}
	return n
}

// of is a value of two numbers.
func of(re, im int) api.Val { return api.Val{Re: part(re), Im: part(im)} }

// follow runs what is left of a program, with a stack whose top comes first.
func follow(left []api.Instr, stack []api.Val, in api.Val, r *vm.Result) {
	if len(left) == 0 {
		return
	}
	i := left[0]
	left = left[1:]
	r.Steps++
	name, _, _ := strings.Cut(code.Text([]api.Instr{i}), " ")
	lay := func(n int, l ...api.Val) { stack = append(l, stack[n:]...) }
	var x, y api.Val
	if len(stack) > 0 {
		y = stack[0]
	}
	if len(stack) > 1 {
		x = stack[1]
	}
	switch name {
	case "HALT":
		return
	case "PUSH":
		lay(0, of(i.A, 0))
	case "PUSHI":
		lay(0, of(0, i.A))
	case "IN":
		lay(0, in)
	case "LOAD":
		lay(0, r.Cells[i.A])
	case "STORE":
		r.Cells[i.A] = y
		lay(1)
	case "ADD":
		lay(2, of(x.Re+y.Re, x.Im+y.Im))
	case "SUB":
		lay(2, of(x.Re-y.Re, x.Im-y.Im))
	case "MUL":
		lay(2, of(x.Re*y.Re-x.Im*y.Im, x.Re*y.Im+x.Im*y.Re))
	case "CONJ":
		lay(1, of(y.Re, -y.Im))
	case "TURN":
		lay(1, of(-y.Im, y.Re))
	case "DUP":
		lay(1, y, y)
	case "SWAP":
		lay(2, x, y)
	case "DROP":
		lay(1)
	case "EMIT":
		r.Out = append(r.Out, y)
		lay(1)
	case "LT":
		less := map[bool]int{true: 1}
		lay(2, of(less[x.Re < y.Re], 0))
	case "JZ", "JMP":
		if name == "JZ" {
			lay(1)
		}
		if name == "JMP" || y.Re == 0 && y.Im == 0 {
			left = left[min(i.A, len(left)):]
		}
	}
	follow(left, stack, in, r)
}

// modelOf is what the chapter says of a safe program that is run for each input.
func modelOf(p []api.Instr, cells [2]api.Val, in ...api.Val) vm.Result {
	r := vm.Result{Cells: cells}
	for _, v := range in {
		follow(p, nil, v, &r)
	}
	return r
}

// chance makes numbers, other ones for each seed, and the same ones each time.
type chance uint64

// below is a number from 0 to n - 1.
func (c *chance) below(n int) int {
	*c = *c*6364136223846793005 + 1442695040888963407
	return int(uint64(*c)>>33) % n
}

// part is a number of a value: a small one, one at the ends, or any.
func (c *chance) part() int {
	switch c.below(4) {
	case 0:
		return c.below(5) - 2
	case 1:
		return -1<<19 + c.below(3)
	case 2:
		return 1<<19 - 1 - c.below(3)
	}
	return c.below(1<<20) - 1<<19
}

// value is a value; often 0, or one whose parts are few.
func (c *chance) value() api.Val {
	switch c.below(4) {
	case 0:
		return api.Val{}
	case 1:
		return api.Val{Re: c.below(3) - 1, Im: c.below(3) - 1}
	}
	return api.Val{Re: c.part(), Im: c.part()}
}

// any is a right instruction; its jumps lead over at most so many.
func (c *chance) any(most int) api.Instr {
	// Those that lay and those that jump come more often: else nearly all would lack something to take.
	often := []int{code.In, code.Push, code.Jz, code.Jz, code.Jmp, code.Emit, code.Dup, code.Load, code.Store, code.Lt}
	op := c.below(18 + len(often))
	if op >= 18 {
		op = often[op-18]
	}
	switch op {
	case code.Push, code.PushI:
		return api.Instr{Op: op, A: c.part()}
	case code.Load, code.Store:
		return api.Instr{Op: op, A: c.below(2)}
	case code.Jz, code.Jmp:
		return api.Instr{Op: op, A: 1 + c.below(most)}
	}
	return api.Instr{Op: op}
}

// safe is a safe program of at most n instructions: each is one with which those up to it are safe.
func (c *chance) safe(n, most int) []api.Instr {
	var p []api.Instr
	for range 10 * n {
		if len(p) == n {
			break
		}
		if q := append(slices.Clone(p), c.any(most)); check.Safe(q) {
			p = q
		}
	}
	return p
}

// alphabet are instructions of each kind, of jumps some.
func alphabet() []api.Instr {
	var l []api.Instr
	for op := range 18 {
		switch op {
		case code.Load, code.Store:
			l = append(l, api.Instr{Op: op}, api.Instr{Op: op, A: 1})
		case code.Jz, code.Jmp:
			l = append(l, api.Instr{Op: op, A: 1}, api.Instr{Op: op, A: 2}, api.Instr{Op: op, A: 24})
		case code.Push, code.PushI:
			l = append(l, api.Instr{Op: op, A: 3})
		default:
			l = append(l, api.Instr{Op: op})
		}
	}
	return l
}

// eachOf hands all programs of n instructions of l to do.
func eachOf(l []api.Instr, n int, do func(p []api.Instr)) {
	p := make([]api.Instr, n)
	var fill func(at int)
	fill = func(at int) {
		if at == n {
			do(p)
			return
		}
		for _, i := range l {
			p[at] = i
			fill(at + 1)
		}
	}
	fill(0)
}

// eachSafe hands many safe programs to do: all short ones of some instructions, and long ones.
func eachSafe(do func(p []api.Instr)) {
	ifSafe := func(p []api.Instr) {
		if check.Safe(p) {
			do(p)
		}
	}
	for n := range 4 {
		eachOf(alphabet(), n, ifSafe)
	}
	few := []api.Instr{{Op: code.In}, {Op: code.Emit}, {Op: code.Jz, A: 1}, {Op: code.Jz, A: 2}, {Op: code.Jmp, A: 1}, {Op: code.Jmp, A: 2}, {Op: code.Halt}}
	for n := 4; n < 7; n++ {
		eachOf(few, n, ifSafe)
	}
	for seed := range 5000 {
		c := chance(seed)
		do(c.safe(1+c.below(24), []int{2, 5, 24}[seed%3]))
	}
}

// unsafe are programs that aren't safe: that don't fit, and others.
func unsafe(t *testing.T) [][]api.Instr {
	l := [][]api.Instr{
		make([]api.Instr, 25),
		make([]api.Instr, 1<<16),
		{{Op: -1}},
		{{Op: 18}},
		{{Op: code.Halt, A: 1}},
		{{Op: code.Halt}, {Op: code.Load, A: 2}},
		{{Op: code.Load, A: -1}},
		{{Op: code.Jmp}},
		{{Op: code.Jmp, A: -1}},
		{{Op: code.Jmp, A: 25}},
		{{Op: code.Push, A: 1 << 19}},
		{{Op: code.PushI, A: -1<<19 - 1}},
	}
	for _, words := range []string{
		"EMIT", "ADD", "IN; SUB", "IN; SWAP", "DUP", "STORE 0", "JZ 1", "CONJ", "LT", "DROP", "IN; JZ 1; IN; HALT",
		strings.Repeat("IN; ", 8) + "IN", strings.Repeat("IN; EMIT; ", 4) + "IN; EMIT",
		// What the JZ takes never leads there.
		"PUSH 1; JZ 1; HALT; EMIT",
	} {
		l = append(l, program(t, words))
	}
	return l
}

// wrong are values that aren't right.
func wrong() []api.Val {
	var l []api.Val
	for _, n := range []int{1 << 19, -1<<19 - 1, 1 << 20, -1 << 20, 1 << 32, 1<<63 - 1, -1 << 63} {
		l = append(l, api.Val{Re: n}, api.Val{Im: n}, api.Val{Re: n, Im: n}, api.Val{Re: 1, Im: n})
	}
	return l
}
