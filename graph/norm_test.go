package graph_test

import (
	"slices"
	"testing"

	"forebay/api"
	"forebay/graph"
)

func TestNorm(t *testing.T) {
	wantNodes(t, graph.Norm(nil), nil)
	wantNodes(t, graph.Norm([]api.Node{}), nil)
	wantNodes(t, graph.Norm(bare()), bare())
	wantNodes(t, graph.Norm(chain()), []api.Node{source(), sink(1, 4), operator(2, 6), operator(4, 2), operator(6, 0)})
	wantNodes(t, graph.Norm(tree()), []api.Node{source(), sink(1, 2), operator(2, 7), operator(3, 0), sink(4, 3, 7), operator(5, 7), sink(6, 5, 0, 2), operator(7, 0)})
	// Nothing is asked of the nodes; From stays in its order.
	wantNodes(t, graph.Norm([]api.Node{sink(9, 5, 5, -1), operator(-3), {Id: 4, Kind: 7, Par: 9}}), []api.Node{operator(-3), {Id: 4, Kind: 7, Par: 9}, sink(9, 5, 5, -1)})
}

// TestNormLike: nodes of one number stay as they stood.
func TestNormLike(t *testing.T) {
	a, b, c, d := sink(3, 0), sink(3, 1), sink(2, 0), operator(3, 9)
	wantNodes(t, graph.Norm([]api.Node{a, b, c}), []api.Node{c, a, b})
	wantNodes(t, graph.Norm([]api.Node{b, a, c}), []api.Node{c, b, a})
	wantNodes(t, graph.Norm([]api.Node{a, c, b}), []api.Node{c, a, b})
	wantNodes(t, graph.Norm([]api.Node{b, c, a}), []api.Node{c, b, a})
	wantNodes(t, graph.Norm([]api.Node{d, b, c, a, c, b}), []api.Node{c, c, d, b, a, b})
	wantNodes(t, graph.Norm([]api.Node{a, a, a}), []api.Node{a, a, a})
}

// TestNormMany: lists of any length, with few numbers and with many, far ones too.
func TestNormMany(t *testing.T) {
	for n := range 200 {
		for _, numbers := range []int{1, 2, 5, 1000} {
			c := chance(n)
			var l []api.Node
			for at := range n {
				id := c.below(numbers) - numbers/2
				if c.below(50) == 0 {
					id = far()[c.below(6)]
				}
				l = append(l, api.Node{Id: id, Par: at, From: []int{at}})
			}
			want := copies(l)
			slices.SortStableFunc(want, func(a, b api.Node) int {
				switch {
				case a.Id < b.Id:
					return -1
				case a.Id > b.Id:
					return 1
				}
				return 0
			})
			wantNodes(t, graph.Norm(l), want)
		}
	}
}

func TestNormLong(t *testing.T) {
	l := make([]api.Node, 200000)
	for at := range l {
		l[at].Id = len(l) - at
	}
	for at, n := range graph.Norm(l) {
		if n.Id != at+1 {
			t.Fatal(at, n.Id)
		}
	}
}

func TestFind(t *testing.T) {
	l := append(tree(), sink(5, 0), operator(9, 9), operator(-1, 1), sink(9, 1))
	for _, x := range []struct {
		id, at int
	}{{0, 4}, {1, 5}, {2, 7}, {3, 6}, {4, 2}, {5, 1}, {6, 0}, {7, 3}, {9, 9}, {-1, 10}} {
		if n, ok := graph.Find(l, x.id); !ok || !one(n, l[x.at]) {
			t.Errorf("%d: %v, %t", x.id, n, ok)
		}
	}
	for _, id := range append(far(), 8, 10, -2) {
		if n, ok := graph.Find(l, id); ok || !one(n, api.Node{}) {
			t.Errorf("%d: %v, %t", id, n, ok)
		}
	}
	for _, l := range [][]api.Node{nil, {}, {sink(1, 0)}} {
		if n, ok := graph.Find(l, 0); ok || !one(n, api.Node{}) {
			t.Errorf("%v, %t", n, ok)
		}
	}
}

// wantSame fails unless Same tells of two lists, either way round, what is wanted.
func wantSame(t *testing.T, a, b []api.Node, want bool) {
	t.Helper()
	if graph.Same(a, b) != want || graph.Same(b, a) != want {
		t.Errorf("%v and %v: %t, %t", a, b, graph.Same(a, b), graph.Same(b, a))
	}
}

func TestSame(t *testing.T) {
	graphs := append(rights(), nil, graph.Pass(1), graph.Pass(2), graph.Pass(3), tree()[:7], tree()[1:], append(tree(), tree()[0]))
	for at, a := range graphs {
		for other, b := range graphs {
			wantSame(t, a, copies(b), at == other)
		}
	}
	wantSame(t, nil, []api.Node{}, true)
	for seed := range 200 {
		c := chance(seed)
		l := c.graph()
		wantSame(t, l, mixed(&c, copies(l)), true)
		wantSame(t, l, graph.Norm(l), true)
	}
}

// TestSameFields: nodes that differ in one field.
func TestSameFields(t *testing.T) {
	l := tree()
	for at := range l {
		for number, do := range []func(n *api.Node){
			func(n *api.Node) { n.Id++ },
			func(n *api.Node) { n.Kind = (n.Kind + 1) % 3 },
			func(n *api.Node) { n.From = append(n.From, 3) },
			func(n *api.Node) { n.Prog = append(n.Prog, api.Instr{}) },
			func(n *api.Node) { n.Par++ },
			func(n *api.Node) { n.Route[0]++ },
			func(n *api.Node) { n.Route[7]-- },
		} {
			n := with(l[at], do)
			other := slices.Replace(slices.Clone(l), at, at+1, n)
			if graph.Same(l, other) || graph.Same(other, l) {
				t.Errorf("%v and %v (%d)", l[at], n, number)
			}
		}
	}
	a := []api.Node{sink(1, 0, 2)}
	wantSame(t, a, []api.Node{sink(1, 2, 0)}, false)
	wantSame(t, a, []api.Node{sink(1, 0)}, false)
	wantSame(t, a, []api.Node{sink(1, 0, 3)}, false)
	wantSame(t, a, []api.Node{sink(1)}, false)
	b := []api.Node{with(operator(1, 0), func(n *api.Node) { n.Prog = program(t, "PUSH 1; EMIT") })}
	for _, words := range []string{"PUSH 2; EMIT", "PUSHI 1; EMIT", "PUSH 1", "", "EMIT; PUSH 1"} {
		wantSame(t, b, []api.Node{with(b[0], func(n *api.Node) { n.Prog = program(t, words) })}, false)
	}
	// No list and an empty one are one.
	wantSame(t, bare(), []api.Node{with(source(), func(n *api.Node) { n.From, n.Prog = []int{}, []api.Instr{} })}, true)
}

// TestSameLike: nodes of one number stay as they stood, so that their order matters, and where others stand doesn't.
func TestSameLike(t *testing.T) {
	a, b, c := sink(3, 0), sink(3, 1), sink(2, 0)
	wantSame(t, []api.Node{a, b, c}, []api.Node{c, a, b}, true)
	wantSame(t, []api.Node{a, b, c}, []api.Node{a, c, b}, true)
	wantSame(t, []api.Node{a, b, c}, []api.Node{b, a, c}, false)
	wantSame(t, []api.Node{a, b}, []api.Node{a, a}, false)
	wantSame(t, []api.Node{a, a, b}, []api.Node{a, b, b}, false)
	wantSame(t, []api.Node{a, a}, []api.Node{a}, false)
}
