package check_test

import (
	"slices"
	"strings"
	"testing"

	"forebay/api"
	"forebay/check"
	"forebay/code"
)

// stackOf is, of each operation's name, what it takes and what it leaves.
var stackOf = map[string][2]int{
	"HALT": {0, 0}, "JMP": {0, 0},
	"PUSH": {0, 1}, "PUSHI": {0, 1}, "IN": {0, 1}, "LOAD": {0, 1},
	"STORE": {1, 0}, "DROP": {1, 0}, "EMIT": {1, 0}, "JZ": {1, 0},
	"ADD": {2, 1}, "SUB": {2, 1}, "MUL": {2, 1}, "LT": {2, 1},
	"CONJ": {1, 1}, "TURN": {1, 1},
	"DUP": {1, 2}, "SWAP": {2, 2},
}

// program is the program of words.
func program(t *testing.T, words string) []api.Instr {
	t.Helper()
	p, e := code.Parse(words)
	if e != api.OK {
		t.Fatalf("%q are no words of a program", words)
	}
	return p
}

// nameOf is the name of an instruction's operation.
func nameOf(i api.Instr) string {
	name, _, _ := strings.Cut(code.Text([]api.Instr{i}), " ")
	return name
}

// spot is where a way is: a place, a depth, and how many EMITs it had.
type spot struct{ at, depth, emits int }

// model goes through a program way by way.
type model struct {
	p      []api.Instr
	been   map[spot]bool
	unsafe bool
	max    int
	emits  int
	uses   [2]bool
}

// follow goes on from a spot, along each way.
func (m *model) follow(s spot) {
	if m.been[s] || s.at >= len(m.p) {
		return
	}
	m.been[s] = true
	i := m.p[s.at]
	name := nameOf(i)
	if s.depth < stackOf[name][0] {
		m.unsafe = true
		return
	}
	s.depth += stackOf[name][1] - stackOf[name][0]
	if name == "EMIT" {
		s.emits++
	}
	if s.depth > 8 || s.emits > 4 {
		m.unsafe = true
		return
	}
	m.max = max(m.max, s.depth)
	m.emits = max(m.emits, s.emits)
	if name == "LOAD" || name == "STORE" {
		m.uses[i.A] = true
	}
	if name != "HALT" && name != "JMP" {
		m.follow(spot{s.at + 1, s.depth, s.emits})
	}
	if name == "JZ" || name == "JMP" {
		m.follow(spot{s.at + i.A + 1, s.depth, s.emits})
	}
}

// modelOf is what the chapter says of a program that fits, told way by way.
func modelOf(p []api.Instr) (check.Report, api.Errno) {
	m := model{p: p, been: map[spot]bool{}}
	m.follow(spot{})
	r := check.Report{Max: m.max, Emits: m.emits, Uses: m.uses}
	for at := range p {
		depth := -1
		for s := range m.been {
			if s.at != at {
				continue
			}
			if depth != -1 && depth != s.depth {
				m.unsafe = true
			}
			depth = s.depth
		}
		r.Depth = append(r.Depth, depth)
	}
	if m.unsafe {
		return check.Report{}, api.ErrCode
	}
	return r, api.OK
}

// same tells whether two reports are one.
func same(a, b check.Report) bool {
	return slices.Equal(a.Depth, b.Depth) && a.Max == b.Max && a.Emits == b.Emits && a.Uses == b.Uses
}

// node is an instruction of a program that is trimmed by the model: its jump leads to a node, or to the end (nil).
type node struct {
	i    api.Instr
	to   *node
	gone bool
}

// trimOf is a safe program, trimmed as the chapter says, again and again till nothing is left to do.
func trimOf(p []api.Instr) []api.Instr {
	l := nodesOf(p)
	r, _ := modelOf(p)
	var kept []*node
	for at, x := range l {
		if r.Depth[at] >= 0 {
			kept = append(kept, x)
		}
	}
	for again := true; again; {
		again = false
		for at, x := range kept {
			if x.i.Op == code.Jmp && over(kept, at) == 0 {
				x.gone, again = true, true
				// What lead to it leads to the one that it lead to.
				for _, y := range kept {
					if y.to == x {
						y.to = x.to
					}
				}
				kept = slices.Delete(kept, at, at+1)
				break
			}
		}
	}
	var q []api.Instr
	for at, x := range kept {
		switch {
		case x.i.Op != code.Jz && x.i.Op != code.Jmp:
			q = append(q, x.i)
		case over(kept, at) == 0:
			q = append(q, api.Instr{Op: code.Drop})
		default:
			q = append(q, api.Instr{Op: x.i.Op, A: over(kept, at)})
		}
	}
	return q
}

// nodesOf are a program's instructions as nodes.
func nodesOf(p []api.Instr) []*node {
	var l []*node
	for _, i := range p {
		l = append(l, &node{i: i})
	}
	for at, x := range l {
		if x.i.Op != code.Jz && x.i.Op != code.Jmp {
			continue
		}
		if to := at + 1 + x.i.A; to < len(l) {
			x.to = l[to]
		}
	}
	return l
}

// over is how many of them the jump of the node at a place leads over.
func over(l []*node, at int) int {
	n := 0
	for _, x := range l[at+1:] {
		if x == l[at].to {
			break
		}
		n++
	}
	return n
}

// waysOf are what a program does on each of its ways: the instructions, JMP left out, and JZ as DROP.
func waysOf(p []api.Instr) map[string]bool {
	ways := map[string]bool{}
	var follow func(at int, done string)
	follow = func(at int, done string) {
		if at >= len(p) {
			ways[done] = true
			return
		}
		i := p[at]
		switch i.Op {
		case code.Halt:
			ways[done+"HALT"] = true
		case code.Jmp:
			follow(at+1+i.A, done)
		case code.Jz:
			follow(at+1, done+"DROP;")
			follow(at+1+i.A, done+"DROP;")
		default:
			follow(at+1, done+code.Text([]api.Instr{i})+";")
		}
	}
	follow(0, "")
	return ways
}

// chance makes numbers, other ones for each seed, and the same ones each time.
type chance uint64

// below is a number from 0 to n - 1.
func (c *chance) below(n int) int {
	*c = *c*6364136223846793005 + 1442695040888963407
	return int(uint64(*c)>>33) % n
}

// any is a right instruction; its jumps lead over at most so many.
func (c *chance) any(most int) api.Instr {
	// Those that lay and those that jump come more often: else nearly all would lack something to take.
	often := []int{code.In, code.Push, code.Jz, code.Jz, code.Jmp, code.Emit, code.Dup, code.Load, code.In}
	op := c.below(18 + len(often))
	if op >= 18 {
		op = often[op-18]
	}
	switch op {
	case code.Push, code.PushI:
		return api.Instr{Op: op, A: c.below(9) - 4}
	case code.Load, code.Store:
		return api.Instr{Op: op, A: c.below(2)}
	case code.Jz, code.Jmp:
		return api.Instr{Op: op, A: 1 + c.below(most)}
	}
	return api.Instr{Op: op}
}

// safe is a safe program of at most n instructions: each is one with which those up to it are safe.
func (c *chance) safe(n, most int) []api.Instr {
	var p []api.Instr
	for range 10 * n {
		if len(p) == n {
			break
		}
		q := append(slices.Clone(p), c.any(most))
		if _, e := modelOf(q); e == api.OK {
			p = q
		}
	}
	return p
}

// alphabet are instructions of each kind, of jumps some.
func alphabet() []api.Instr {
	var l []api.Instr
	for op := range 18 {
		switch op {
		case code.Load, code.Store:
			l = append(l, api.Instr{Op: op}, api.Instr{Op: op, A: 1})
		case code.Jz, code.Jmp:
			l = append(l, api.Instr{Op: op, A: 1}, api.Instr{Op: op, A: 2}, api.Instr{Op: op, A: 3}, api.Instr{Op: op, A: 24})
		default:
			l = append(l, api.Instr{Op: op})
		}
	}
	return l
}

// eachOf hands all programs of n instructions of l to do.
func eachOf(l []api.Instr, n int, do func(p []api.Instr)) {
	p := make([]api.Instr, n)
	var fill func(at int)
	fill = func(at int) {
		if at == n {
			do(p)
			return
		}
		for _, i := range l {
			p[at] = i
			fill(at + 1)
		}
	}
	fill(0)
}

// each hands many programs that fit, safe ones and others, to do.
func each(do func(p []api.Instr)) {
	for n := range 4 {
		eachOf(alphabet(), n, do)
	}
	few := []api.Instr{{Op: code.In}, {Op: code.Emit}, {Op: code.Jz, A: 1}, {Op: code.Jz, A: 2}, {Op: code.Jmp, A: 1}, {Op: code.Jmp, A: 2}, {Op: code.Halt}}
	for n := 4; n < 7; n++ {
		eachOf(few, n, do)
	}
	for seed := range 3000 {
		c := chance(seed)
		p := c.safe(1+c.below(24), []int{2, 5, 24}[seed%3])
		do(p)
		// One instruction is another one: most often it isn't safe then.
		if len(p) > 0 {
			q := slices.Clone(p)
			q[c.below(len(q))] = c.any(24)
			do(q)
		}
	}
}

// unfit are programs that don't fit, but would be safe if they did.
func unfit() [][]api.Instr {
	l := [][]api.Instr{
		make([]api.Instr, 25),
		make([]api.Instr, 26),
		make([]api.Instr, 1<<16),
		slices.Repeat([]api.Instr{{Op: code.In}, {Op: code.Drop}}, 13),
		append([]api.Instr{{Op: code.Jmp, A: 24}}, make([]api.Instr, 24)...),
	}
	for _, bad := range []api.Instr{
		{Op: -1}, {Op: 18}, {Op: 1 << 32}, {Op: 1<<32 + 3},
		{Op: code.Halt, A: 1}, {Op: code.In, A: -1}, {Op: code.Emit, A: 1}, {Op: code.Lt, A: 24},
		{Op: code.Push, A: 1 << 19}, {Op: code.PushI, A: -1<<19 - 1},
		{Op: code.Load, A: 2}, {Op: code.Load, A: -1}, {Op: code.Store, A: 2}, {Op: code.Store, A: -1},
		{Op: code.Jz}, {Op: code.Jz, A: 25}, {Op: code.Jz, A: -1}, {Op: code.Jmp}, {Op: code.Jmp, A: 25}, {Op: code.Jmp, A: -2},
	} {
		l = append(l,
			[]api.Instr{bad},
			// It can't be come to: it must fit all the same.
			[]api.Instr{{Op: code.Halt}, bad},
			[]api.Instr{{Op: code.In}, {Op: code.Dup}, bad, {Op: code.Halt}},
			[]api.Instr{{Op: code.Jmp, A: 1}, bad, {Op: code.In}, {Op: code.Emit}},
		)
	}
	return l
}
