package graph_test

import (
	"slices"
	"testing"

	"forebay/api"
	"forebay/graph"
)

func TestRight(t *testing.T) {
	for _, l := range rights() {
		wantError(t, graph.Check(l), api.OK)
	}
	for _, l := range [][]api.Node{
		{source(), sink(7, 0)},
		{source(), operator(1, 0), sink(2, 1), sink(3, 1, 0), sink(4, 0, 1)},
		{source(), operator(1, 2), operator(2, 3), operator(3, 0), sink(4, 1, 2, 3)},
		{source(), sink(1, 0), sink(2, 0), sink(3, 0), sink(4, 0), sink(5, 0), sink(6, 0), sink(7, 0)},
		{source(), operator(1, 2), operator(2, 3), operator(3, 4), operator(4, 5), operator(5, 6), operator(6, 7), operator(7, 0)},
		// An operator whose program puts out nothing, and one that has no instruction.
		{source(), with(operator(1, 0), func(n *api.Node) { n.Prog = program(t, "HALT") }), sink(2, 1)},
		{source(), with(operator(1, 0), func(n *api.Node) { n.Prog = nil }), sink(2, 1)},
		{source(), with(operator(1, 0), func(n *api.Node) { n.Prog = program(t, "IN; LOAD 0; ADD; DUP; STORE 0; EMIT; LOAD 1; EMIT") }), sink(2, 1)},
		// No list and an empty one are one.
		{with(source(), func(n *api.Node) { n.From, n.Prog = []int{}, []api.Instr{} }), with(sink(1, 0), func(n *api.Node) { n.Prog = []api.Instr{} })},
	} {
		wantError(t, graph.Check(l), api.OK)
	}
}

func TestLong(t *testing.T) {
	nine := append(tree(), sink(1, 2))
	wantError(t, graph.Check(nine), api.ErrLong)
	wantError(t, graph.Check(append(tree(), sink(8, 2))), api.ErrLong)
	wantError(t, graph.Check(make([]api.Node, 8)), api.ErrGraph)
	wantError(t, graph.Check(make([]api.Node, 9)), api.ErrLong)
	wantError(t, graph.Check(make([]api.Node, 100000)), api.ErrLong)
	// Whatever else is wrong.
	for at := range nine {
		for _, do := range spoils() {
			wantError(t, graph.Check(slices.Replace(slices.Clone(nine), at, at+1, with(nine[at], do))), api.ErrLong)
		}
	}
}

// wantWrong fails unless a graph isn't right, in whichever order its nodes stand.
func wantWrong(t *testing.T, l ...api.Node) {
	t.Helper()
	for at := range len(l) + 1 {
		turned := append(slices.Clone(l[min(at, len(l)):]), l[:min(at, len(l))]...)
		if e := graph.Check(turned); e != api.ErrGraph {
			t.Errorf("%v: error %d", turned, e)
		}
		slices.Reverse(turned)
		if e := graph.Check(turned); e != api.ErrGraph {
			t.Errorf("%v: error %d", turned, e)
		}
	}
}

func TestWrong(t *testing.T) {
	for _, l := range wrongs() {
		if len(l) <= 8 {
			wantWrong(t, l...)
		}
	}
}

func TestWrongNumbers(t *testing.T) {
	wantWrong(t, source(), sink(1, 0), sink(1, 0))
	wantWrong(t, source(), operator(1, 0), sink(1, 0))
	wantWrong(t, source(), operator(1, 0), operator(1, 0), sink(2, 1))
	wantWrong(t, source(), operator(1, 0), sink(2, 1), sink(2, 0))
	wantWrong(t, source(), operator(0, 0))
	wantWrong(t, source(), sink(0, 0))
	wantWrong(t, operator(0, 0))
	wantWrong(t, sink(0, 0))
	wantWrong(t, sink(0, 1), operator(1, 0))
	for _, id := range append(far(), -1, 8, 9, -8) {
		wantWrong(t, source(), sink(id, 0))
		wantWrong(t, source(), operator(id, 0))
		wantWrong(t, source(), operator(id, 0), sink(1, id))
	}
}

func TestWrongSource(t *testing.T) {
	wantWrong(t)
	wantWrong(t, sink(1, 0))
	wantWrong(t, operator(1, 0), sink(2, 1))
	wantWrong(t, operator(0, 2), sink(1, 0))
	wantWrong(t, source(), source())
	wantWrong(t, source(), source(), sink(1, 0))
	for _, id := range append(far(), 1, 2, 7, 8, -1) {
		other := with(source(), func(n *api.Node) { n.Id = id })
		wantWrong(t, other)
		wantWrong(t, other, sink(3, id))
		wantWrong(t, source(), other, sink(3, 0))
		wantWrong(t, operator(0, id), other, sink(3, 0))
	}
	for _, from := range []int{0, 1, 2, 3, -1, 8} {
		wantWrong(t, with(source(), func(n *api.Node) { n.From = []int{from} }), operator(1, 0), sink(2, 1))
		wantWrong(t, with(source(), func(n *api.Node) { n.From = []int{from} }))
	}
	wantWrong(t, with(source(), func(n *api.Node) { n.Prog = passes }), sink(1, 0))
	wantWrong(t, with(source(), func(n *api.Node) { n.Prog = program(t, "HALT") }), sink(1, 0))
	wantWrong(t, with(source(), func(n *api.Node) { n.Prog = unsafe(t)[0] }), sink(1, 0))
}

func TestWrongOperator(t *testing.T) {
	wantWrong(t, source(), operator(1), sink(2, 0))
	wantWrong(t, source(), operator(1), sink(2, 1))
	wantWrong(t, source(), operator(1, 0), operator(2, 0, 1), sink(3, 2))
	wantWrong(t, source(), operator(1, 0), operator(2, 1, 0), sink(3, 2))
	wantWrong(t, source(), operator(1, 0, 0), sink(3, 1))
	wantWrong(t, source(), operator(1, 0), operator(2, 0), operator(3, 0, 1, 2), sink(4, 3))
	for _, p := range unsafe(t) {
		spoil := func(n *api.Node) { n.Prog = p }
		wantWrong(t, source(), with(operator(1, 0), spoil), sink(2, 1))
		wantWrong(t, source(), operator(1, 0), with(operator(2, 1), spoil))
	}
}

func TestWrongAbove(t *testing.T) {
	wantWrong(t, source(), operator(1, 1))
	wantWrong(t, source(), operator(1, 1), sink(2, 1))
	wantWrong(t, source(), operator(1, 2), operator(2, 1))
	wantWrong(t, source(), operator(1, 2), operator(2, 1), sink(3, 0, 1))
	wantWrong(t, source(), operator(1, 2), operator(2, 3), operator(3, 1), sink(4, 0))
	wantWrong(t, source(), operator(4, 0), operator(1, 2), operator(2, 3), operator(3, 1), sink(5, 4))
	wantWrong(t, source(), operator(1, 2), operator(2, 3), operator(3, 4), operator(4, 5), operator(5, 6), operator(6, 7), operator(7, 1))
	// One below such ones that isn't above itself.
	wantWrong(t, source(), operator(1, 2), operator(2, 2), sink(3, 1))
}

func TestWrongSink(t *testing.T) {
	wantWrong(t, source(), sink(1))
	wantWrong(t, source(), sink(1, 0), sink(2))
	ops := []api.Node{source(), operator(1, 0), operator(2, 1), operator(3, 0)}
	wantError(t, graph.Check(append(ops, sink(4, 3, 0, 1))), api.OK)
	wantWrong(t, append(ops, sink(4, 0, 1, 2, 3))...)
	for _, from := range [][]int{{0, 0}, {1, 1}, {0, 0, 1}, {0, 1, 0}, {1, 0, 0}, {2, 2, 2}, {0, 1, 2, 2}} {
		wantWrong(t, append(ops, sink(4, from...))...)
	}
	for _, p := range append(unsafe(t), passes, program(t, "HALT")) {
		wantWrong(t, source(), with(sink(1, 0), func(n *api.Node) { n.Prog = p }))
	}
}

func TestWrongFrom(t *testing.T) {
	for _, from := range append(far(), 3, 7, 8, 9, -1) {
		wantWrong(t, source(), operator(1, from))
		wantWrong(t, source(), operator(1, from), sink(2, 0))
		wantWrong(t, source(), operator(1, 0), sink(2, from))
		wantWrong(t, source(), operator(1, 0), sink(2, 0, from))
		wantWrong(t, source(), operator(1, 0), sink(2, from, 1, 0))
	}
	// A sink's number: another one's, and its own.
	wantWrong(t, source(), sink(1, 0), operator(2, 1))
	wantWrong(t, source(), sink(1, 0), sink(2, 1))
	wantWrong(t, source(), sink(1, 0), sink(2, 0, 1))
	wantWrong(t, source(), sink(1, 1))
	wantWrong(t, source(), sink(1, 0, 1))
}

func TestWrongKind(t *testing.T) {
	for _, kind := range append(far(), 3, 4, -1, -2, 8) {
		spoil := func(n *api.Node) { n.Kind = kind }
		wantWrong(t, source(), with(operator(1, 0), spoil))
		wantWrong(t, source(), with(sink(1, 0), spoil))
		wantWrong(t, with(source(), spoil), sink(1, 0))
		wantWrong(t, source(), with(api.Node{Id: 1, Par: 1}, spoil))
	}
}

// TestPar: each kind of node, with each Par, and each number at each group.
func TestPar(t *testing.T) {
	l := []api.Node{source(), operator(1, 0), sink(2, 1)}
	for at := range l {
		for _, par := range append(far(), -1, 0, 1, 2, 3, 4, 5) {
			for g := range 8 {
				for _, task := range append(far(), -2, -1, 0, 1, 2, 3, 4, par, par-1) {
					want := api.ErrGraph
					if par >= 1 && par <= 3 && task >= 0 && task < par {
						want = api.OK
					}
					n := with(l[at], func(n *api.Node) { n.Par, n.Route[g] = par, task })
					if e := graph.Check(slices.Replace(slices.Clone(l), at, at+1, n)); e != want {
						t.Errorf("%v: error %d, not %d", n, e, want)
					}
				}
			}
		}
	}
}

// TestCheckMany: right graphs, and ones of which a node or two are changed, are what the model says.
func TestCheckMany(t *testing.T) {
	counts := map[api.Errno]int{}
	for seed := range 3000 {
		c := chance(seed)
		l := c.graph()
		wantError(t, graph.Check(l), api.OK)
		wantError(t, modelCheck(l), api.OK)
		for range 10 {
			spoilt := copies(l)
			for range 1 + c.below(2) {
				c.spoil(&spoilt[c.below(len(spoilt))])
			}
			want := modelCheck(spoilt)
			if e := graph.Check(spoilt); e != want {
				t.Fatalf("%v: error %d, not %d", spoilt, e, want)
			}
			counts[want]++
		}
	}
	if counts[api.OK] < 1000 || counts[api.ErrGraph] < 1000 {
		t.Error(counts)
	}
}

// TestCheckAll: each way in which up to three operators and a sink may have From.
func TestCheckAll(t *testing.T) {
	for n := range 7 * 7 * 7 * 7 {
		var l []api.Node
		for _, id := range []int{1, 2, 5} {
			l = append(l, operator(id, n%7))
			n /= 7
		}
		l = append(l, sink(6, n%7), source())
		want := modelCheck(l)
		if e := graph.Check(l); e != want {
			t.Fatalf("%v: error %d, not %d", l, e, want)
		}
		wantWalks(t, l)
	}
}
