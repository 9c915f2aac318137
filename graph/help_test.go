package graph_test

import (
	"math"
	"slices"
	"strings"
	"testing"

	"forebay/api"
	"forebay/check"
	"forebay/code"
)

// passes is the program that puts out what comes.
var passes = []api.Instr{{Op: code.In}, {Op: code.Emit}}

// program is the program of words.
func program(t *testing.T, words string) []api.Instr {
	t.Helper()
	p, e := code.Parse(words)
	if e != api.OK {
		t.Fatalf("%q are no words of a program", words)
	}
	return p
}

// source is a source with one task.
func source() api.Node { return api.Node{Kind: api.Source, Par: 1} }

// operator is an operator with one task that lets all pass.
func operator(id int, from ...int) api.Node {
	return api.Node{Id: id, Kind: api.Operator, From: from, Prog: slices.Clone(passes), Par: 1}
}

// sink is a sink with one task.
func sink(id int, from ...int) api.Node {
	return api.Node{Id: id, Kind: api.Sink, From: from, Par: 1}
}

// with is a node to which something is done.
func with(n api.Node, do func(n *api.Node)) api.Node {
	n = copied(n)
	do(&n)
	return n
}

// copied is a node of its own.
func copied(n api.Node) api.Node {
	n.From, n.Prog = slices.Clone(n.From), slices.Clone(n.Prog)
	return n
}

// copies are nodes of their own.
func copies(l []api.Node) []api.Node {
	var c []api.Node
	for _, n := range l {
		c = append(c, copied(n))
	}
	return c
}

// one tells whether two nodes are one.
func one(a, b api.Node) bool {
	return a.Id == b.Id && a.Kind == b.Kind && slices.Equal(a.From, b.From) && slices.Equal(a.Prog, b.Prog) && a.Par == b.Par && a.Route == b.Route
}

// wantNodes fails unless nodes are just those that are wanted, in this order.
func wantNodes(t *testing.T, got, want []api.Node) {
	t.Helper()
	if !slices.EqualFunc(got, want, one) {
		t.Errorf("%v, not %v", got, want)
	}
}

// wantNumbers fails unless numbers are those that are wanted, in this order.
func wantNumbers(t *testing.T, got []int, want ...int) {
	t.Helper()
	if !slices.Equal(got, want) {
		t.Errorf("%d, not %d", got, want)
	}
}

// wantError fails unless an error is the one that is wanted.
func wantError(t *testing.T, got, want api.Errno) {
	t.Helper()
	if got != want {
		t.Errorf("error %d, not %d", got, want)
	}
}

// The graphs that the tests name; their nodes stand out of order.

// chain: 0, 6, 2, 4, and the sink 1.
func chain() []api.Node {
	return []api.Node{operator(4, 2), sink(1, 4), source(), operator(2, 6), operator(6, 0)}
}

// tree: operators 7 and 3 of the source, 2 and 5 of 7; sinks of one, of two and of three of them.
func tree() []api.Node {
	return []api.Node{sink(6, 5, 0, 2), operator(5, 7), sink(4, 3, 7), operator(7, 0), source(), sink(1, 2), operator(3, 0), operator(2, 7)}
}

// bare: a source, and nothing else.
func bare() []api.Node { return []api.Node{source()} }

// idle: operators from which no sink has anything.
func idle() []api.Node {
	return []api.Node{operator(5, 3), source(), sink(4, 0), operator(3, 0)}
}

// rights are right graphs.
func rights() [][]api.Node { return [][]api.Node{bare(), chain(), tree(), idle()} }

// wrongs are graphs that aren't right.
func wrongs() [][]api.Node {
	l := [][]api.Node{
		nil,
		{},
		{sink(1, 0)},
		{source(), source(), sink(1, 0)},
		{source(), operator(2, 3), operator(3, 2), sink(1, 2)},
		{source(), sink(1, 0), sink(1, 0)},
		{source(), sink(1)},
		append(tree(), sink(8, 0)),
	}
	for _, r := range rights() {
		for at := range r {
			for _, do := range spoils() {
				l = append(l, slices.Replace(slices.Clone(r), at, at+1, with(r[at], do)))
			}
		}
	}
	return l
}

// spoils make of each right node one that may not be.
func spoils() []func(n *api.Node) {
	return []func(n *api.Node){
		func(n *api.Node) { n.Par = 0 },
		func(n *api.Node) { n.Route[3] = n.Par },
		func(n *api.Node) { n.Kind = 3 },
		func(n *api.Node) { n.From = append(n.From, 9) },
	}
}

// far are numbers far from all that there are.
func far() []int {
	return []int{1 << 32, 1<<32 + 1, 1<<32 - 1, -1 << 32, math.MaxInt, math.MinInt}
}

// unsafe are programs that aren't safe: that don't fit, and others.
func unsafe(t *testing.T) [][]api.Instr {
	t.Helper()
	return [][]api.Instr{
		make([]api.Instr, 25),
		{{Op: 18}},
		{{Op: code.Load, A: 2}},
		program(t, "EMIT"),
		program(t, "IN; ADD"),
		program(t, strings.Repeat("IN; EMIT; ", 4)+"IN; EMIT"),
	}
}

// The model asks of each node what stands above it, by From, and of all ways whether they go there.

// places are, of each number from 0 to 7, where its node stands, if there is just one.
func places(l []api.Node) map[int]int {
	m := map[int]int{}
	for at, n := range l {
		if n.Id >= 0 && n.Id <= 7 {
			m[n.Id] = at
		}
	}
	return m
}

// above are the numbers above a node: those of From, and what is above them, in a graph whose Froms are all there.
func above(l []api.Node, id int) map[int]bool {
	at, m := places(l), map[int]bool{}
	var up func(id int)
	up = func(id int) {
		for _, f := range l[at[id]].From {
			if !m[f] {
				m[f] = true
				up(f)
			}
		}
	}
	up(id)
	return m
}

// modelCheck is what the chapter says of a graph, sentence by sentence.
func modelCheck(l []api.Node) api.Errno {
	if len(l) >= 9 {
		return api.ErrLong
	}
	at := places(l)
	if len(at) != len(l) {
		return api.ErrGraph
	}
	if first, ok := at[0]; !ok || l[first].Kind != 0 {
		return api.ErrGraph
	}
	for _, n := range l {
		froms := map[int]bool{}
		for _, f := range n.From {
			p, ok := at[f]
			if !ok || l[p].Kind != 0 && l[p].Kind != 1 {
				return api.ErrGraph
			}
			froms[f] = true
		}
		ok := false
		switch n.Kind {
		case 0:
			ok = n.Id == 0 && len(n.From) == 0 && len(n.Prog) == 0
		case 1:
			ok = len(n.From) == 1 && check.Safe(n.Prog)
		case 2:
			ok = len(n.From) == len(froms) && len(froms) > 0 && len(froms) < 4 && len(n.Prog) == 0
		}
		if !ok || n.Par != 1 && n.Par != 2 && n.Par != 3 || slices.Min(n.Route[:]) < 0 || slices.Max(n.Route[:]) >= n.Par {
			return api.ErrGraph
		}
	}
	for _, n := range l {
		if n.Kind == 1 && above(l, n.Id)[n.Id] {
			return api.ErrGraph
		}
	}
	return api.OK
}

// modelPaths are a right graph's ways, gone up from each sink, and sorted.
func modelPaths(l []api.Node) [][]int {
	at := places(l)
	var ways [][]int
	var up func(way []int)
	up = func(way []int) {
		if way[0] == 0 {
			ways = append(ways, way)
		}
		for _, f := range l[at[way[0]]].From {
			up(append([]int{f}, way...))
		}
	}
	for _, n := range l {
		if n.Kind == 2 {
			up([]int{n.Id})
		}
	}
	slices.SortFunc(ways, slices.Compare[[]int])
	return ways
}

// modelDepth is how long the longest way is up to the source.
func modelDepth(l []api.Node, id int) int {
	depth := 0
	for _, f := range l[places(l)[id]].From {
		depth = max(depth, modelDepth(l, f)+1)
	}
	return depth
}

// modelOrder puts one node behind the other, the least number that may be next.
func modelOrder(l []api.Node) []int {
	var order []int
	for len(order) < len(l) {
		for id := range 8 {
			at, ok := places(l)[id]
			if ok && !slices.Contains(order, id) && !slices.ContainsFunc(l[at].From, func(f int) bool { return !slices.Contains(order, f) }) {
				order = append(order, id)
				break
			}
		}
	}
	return order
}

// modelBelow are the numbers of a right graph's nodes above which one stands.
func modelBelow(l []api.Node, id int) []int {
	var below []int
	for n := range 8 {
		if _, ok := places(l)[n]; ok && above(l, n)[id] {
			below = append(below, n)
		}
	}
	return below
}

// modelChildren are the numbers of nodes that have one in From, of numbers from -1 to 9.
func modelChildren(l []api.Node, id int) []int {
	var children []int
	for n := -1; n <= 9; n++ {
		if slices.ContainsFunc(l, func(x api.Node) bool { return x.Id == n && slices.Contains(x.From, id) }) {
			children = append(children, n)
		}
	}
	return children
}

// chance makes numbers, other ones for each seed, and the same ones each time.
type chance uint64

// below is a number from 0 to n - 1.
func (c *chance) below(n int) int {
	*c = *c*6364136223846793005 + 1442695040888963407
	return int(uint64(*c)>>33) % n
}

// mixed are nodes in another order.
func mixed(c *chance, l []api.Node) []api.Node {
	l = slices.Clone(l)
	for at := range l {
		other := at + c.below(len(l)-at)
		l[at], l[other] = l[other], l[at]
	}
	return l
}

// route is a node's Par and Route.
func (c *chance) route(n *api.Node) {
	n.Par = 1 + c.below(3)
	for g := range n.Route {
		n.Route[g] = c.below(n.Par)
	}
}

// graph is a right graph, its nodes out of order.
func (c *chance) graph() []api.Node {
	numbers := []int{1, 2, 3, 4, 5, 6, 7}
	for at := range numbers {
		other := at + c.below(len(numbers)-at)
		numbers[at], numbers[other] = numbers[other], numbers[at]
	}
	l, puts := []api.Node{source()}, []int{0}
	for _, id := range numbers[:c.below(8)] {
		if c.below(2) == 0 {
			l = append(l, operator(id, puts[c.below(len(puts))]))
			puts = append(puts, id)
			continue
		}
		var from []int
		for range 1 + c.below(3) {
			if f := puts[c.below(len(puts))]; !slices.Contains(from, f) {
				from = append(from, f)
			}
		}
		l = append(l, sink(id, from...))
	}
	for at := range l {
		c.route(&l[at])
	}
	return mixed(c, l)
}

// spoil changes a node in one way, which may leave the graph right.
func (c *chance) spoil(n *api.Node) {
	switch c.below(8) {
	case 0:
		n.Id = c.below(10) - 1
	case 1:
		n.Kind = c.below(5) - 1
	case 2:
		if len(n.From) > 0 {
			n.From[c.below(len(n.From))] = c.below(10) - 1
		}
	case 3:
		n.From = append(n.From, c.below(8))
	case 4:
		n.From = n.From[:c.below(len(n.From)+1)]
	case 5:
		n.Prog = [][]api.Instr{nil, {}, passes, {{Op: code.Emit}}}[c.below(4)]
	case 6:
		n.Par = c.below(5)
	case 7:
		n.Route[c.below(8)] = c.below(5) - 1
	}
}
