package graph_test

import (
	"slices"
	"testing"

	"forebay/api"
	"forebay/code"
	"forebay/graph"
)

// roomy are the same nodes in lists with room behind what they have, where something stands.
func roomy(l []api.Node) []api.Node {
	c := copies(l)
	for at := range c {
		c[at].From = append(c[at].From, 77)[:len(c[at].From)]
		c[at].Prog = append(c[at].Prog, api.Instr{Op: 77})[:len(c[at].Prog)]
	}
	return append(c, api.Node{Id: 77})[:len(c)]
}

// wantRoomy fails unless a list that roomy made is as it was, what stands behind it too.
func wantRoomy(t *testing.T, got, want []api.Node) {
	t.Helper()
	wantNodes(t, got[:len(got)+1], append(copies(want), api.Node{Id: 77}))
	for _, n := range got {
		if n.From[:len(n.From)+1][len(n.From)] != 77 || n.Prog[:len(n.Prog)+1][len(n.Prog)].Op != 77 {
			t.Errorf("%v", n)
		}
	}
}

// TestKept: no argument is written into.
func TestKept(t *testing.T) {
	like := []api.Node{sink(5, 3, 1), sink(2, 1, 0), sink(5, 0), source(), source()}
	for _, l := range slices.Concat(rights(), wrongs(), [][]api.Node{like}) {
		kept := roomy(l)
		graph.Check(kept)
		graph.Norm(kept)
		graph.Order(kept)
		graph.Depths(kept)
		graph.Paths(kept)
		graph.Same(kept, kept)
		for id := -1; id <= 8; id++ {
			graph.Find(kept, id)
			graph.Children(kept, id)
			graph.Below(kept, id)
		}
		wantRoomy(t, kept, l)
	}
}

// spoilNode writes into all that a node has, and behind it.
func spoilNode(n *api.Node) {
	_ = append(n.From, 88)
	_ = append(n.Prog, api.Instr{Op: 88})
	for at := range n.From {
		n.From[at] = 99
	}
	for at := range n.Prog {
		n.Prog[at] = api.Instr{Op: code.Halt}
	}
	*n = api.Node{Id: 99}
}

// TestNormNew: what Norm answers is a list of its own.
func TestNormNew(t *testing.T) {
	for _, l := range slices.Concat(rights(), wrongs()) {
		kept := roomy(l)
		a, b := graph.Norm(kept), graph.Norm(kept)
		want := copies(b)
		for at := range a {
			spoilNode(&a[at])
		}
		_ = append(a, api.Node{Id: 88})
		wantRoomy(t, kept, l)
		wantNodes(t, b, want)
		// Nor does the answer follow the argument.
		for at := range kept {
			spoilNode(&kept[at])
		}
		wantNodes(t, b, want)
	}
}

// TestNormApart: no two nodes of an answer share memory, though those of the argument did.
func TestNormApart(t *testing.T) {
	from := []int{0, 0, 0}
	p := slices.Clone(passes)
	l := []api.Node{{Id: 3, From: from[:1], Prog: p[:1]}, {Id: 2, From: from, Prog: p}, {Id: 1, From: from[1:], Prog: p[1:]}}
	got := graph.Norm(l)
	spoilNode(&got[1])
	wantNodes(t, got, []api.Node{{Id: 1, From: []int{0, 0}, Prog: passes[1:]}, {Id: 99}, {Id: 3, From: []int{0}, Prog: passes[:1]}})
	_ = append(got[0].From, 5)
	_ = append(got[0].Prog, api.Instr{Op: 5})
	wantNodes(t, graph.Norm(l), []api.Node{{Id: 1, From: []int{0, 0}, Prog: passes[1:]}, {Id: 2, From: []int{0, 0, 0}, Prog: passes}, {Id: 3, From: []int{0}, Prog: passes[:1]}})
}

// TestFindNew: what Find answers is a node of its own.
func TestFindNew(t *testing.T) {
	l := tree()
	kept := roomy(l)
	for id := range 8 {
		n, _ := graph.Find(kept, id)
		want := copied(n)
		other, _ := graph.Find(kept, id)
		spoilNode(&n)
		if !one(other, want) {
			t.Errorf("%v, not %v", other, want)
		}
	}
	wantRoomy(t, kept, l)
}

// spoilNumbers writes into numbers, and behind them.
func spoilNumbers(l []int) {
	_ = append(l, 88)
	for at := range l {
		l[at] = 99
	}
}

// TestNew: other answers share no memory with the graph, nor with one another, nor do two lists of one answer.
func TestNew(t *testing.T) {
	l := tree()
	kept := roomy(l)
	for range 2 {
		spoilNumbers(graph.Order(kept))
		for id := range 8 {
			spoilNumbers(graph.Children(kept, id))
			spoilNumbers(graph.Below(kept, id))
		}
		clear(graph.Depths(kept))
		ways := graph.Paths(kept)
		want := modelPaths(l)
		for at := range ways {
			spoilNumbers(ways[at])
			for other := at + 1; other < len(ways); other++ {
				wantNumbers(t, ways[other], want[other]...)
			}
		}
		wantRoomy(t, kept, l)
		wantWalks(t, kept)
	}
	for par := range 4 {
		p := graph.Pass(par)
		spoilNode(&p[1])
		wantPass(t, par)
	}
}

// TestAgain: what is asked again is answered alike.
func TestAgain(t *testing.T) {
	l := tree()
	for range 50 {
		wantWalks(t, l)
		wantSame(t, l, graph.Norm(l), true)
	}
}
