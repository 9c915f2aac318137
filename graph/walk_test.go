package graph_test

import (
	"maps"
	"slices"
	"testing"

	"forebay/api"
	"forebay/graph"
)

// wantWalks fails unless all that is told of a graph's ways is what the model says.
func wantWalks(t *testing.T, l []api.Node) {
	t.Helper()
	for _, id := range append(far(), -1, 0, 1, 2, 3, 4, 5, 6, 7, 8) {
		wantNumbers(t, graph.Children(l, id), modelChildren(l, id)...)
	}
	if modelCheck(l) != api.OK {
		wantNoWalks(t, l)
		return
	}
	order := graph.Order(l)
	wantNumbers(t, order, modelOrder(l)...)
	depths := map[int]int{}
	for at, id := range order {
		n, _ := graph.Find(l, id)
		for _, f := range n.From {
			if !slices.Contains(order[:at], f) {
				t.Errorf("%v: %d stands ahead of %d", l, id, f)
			}
		}
		depths[id] = modelDepth(l, id)
	}
	if got := graph.Depths(l); !maps.Equal(got, depths) {
		t.Errorf("%v: %d, not %d", l, got, depths)
	}
	for id := -1; id <= 8; id++ {
		wantNumbers(t, graph.Below(l, id), modelBelow(l, id)...)
	}
	wantPaths(t, l, modelPaths(l)...)
}

// wantNoWalks fails unless nothing is told of a graph that isn't right.
func wantNoWalks(t *testing.T, l []api.Node) {
	t.Helper()
	wantNumbers(t, graph.Order(l))
	for _, id := range append(far(), -1, 0, 1, 2, 3, 4, 5, 6, 7, 8) {
		wantNumbers(t, graph.Below(l, id))
	}
	wantPaths(t, l)
	if d := graph.Depths(l); d != nil {
		t.Errorf("%v: %d", l, d)
	}
}

// wantPaths fails unless a graph's ways are those that are wanted, in this order.
func wantPaths(t *testing.T, l []api.Node, want ...[]int) {
	t.Helper()
	if got := graph.Paths(l); !slices.EqualFunc(got, want, slices.Equal[[]int]) {
		t.Errorf("%v: %d, not %d", l, got, want)
	}
}

func TestChildren(t *testing.T) {
	for id, want := range [][]int{{3, 6, 7}, nil, {1, 6}, {4}, nil, {6}, nil, {2, 4, 5}} {
		wantNumbers(t, graph.Children(tree(), id), want...)
	}
	for id, want := range [][]int{{6}, nil, {4}, nil, {1}, nil, {2}} {
		wantNumbers(t, graph.Children(chain(), id), want...)
	}
	for _, id := range append(far(), -1, 8) {
		wantNumbers(t, graph.Children(tree(), id))
		wantNumbers(t, graph.Children(nil, id))
	}
	// Each once, in graphs that aren't right too; of a number that isn't there as well.
	l := []api.Node{sink(9, 2, 2), sink(4, 2, 8), sink(4, 8, 2), operator(-1, 2), sink(9, 1), operator(2, 2), sink(4, 2)}
	wantNumbers(t, graph.Children(l, 2), -1, 2, 4, 9)
	wantNumbers(t, graph.Children(l, 8), 4)
	wantNumbers(t, graph.Children(l, 1), 9)
	wantNumbers(t, graph.Children(l, 4))
}

func TestOrder(t *testing.T) {
	wantNumbers(t, graph.Order(bare()), 0)
	wantNumbers(t, graph.Order(chain()), 0, 6, 2, 4, 1)
	wantNumbers(t, graph.Order(tree()), 0, 3, 7, 2, 1, 4, 5, 6)
	wantNumbers(t, graph.Order(idle()), 0, 3, 4, 5)
	// The least number that may be next, though a lesser one came to stand later.
	wantNumbers(t, graph.Order([]api.Node{source(), operator(5, 0), operator(6, 0), sink(1, 6), operator(2, 5), operator(3, 5), sink(4, 2)}), 0, 5, 2, 3, 4, 6, 1)
}

func TestBelow(t *testing.T) {
	for id, want := range [][]int{{1, 2, 3, 4, 5, 6, 7}, nil, {1, 6}, {4}, nil, {6}, nil, {1, 2, 4, 5, 6}} {
		wantNumbers(t, graph.Below(tree(), id), want...)
	}
	for id, want := range [][]int{{1, 2, 4, 6}, nil, {1, 4}, nil, {1}, nil, {1, 2, 4}, nil} {
		wantNumbers(t, graph.Below(chain(), id), want...)
	}
	wantNumbers(t, graph.Below(bare(), 0))
	for _, id := range append(far(), -1, 8, 9) {
		wantNumbers(t, graph.Below(tree(), id))
	}
}

func TestDepths(t *testing.T) {
	for _, x := range []struct {
		l    []api.Node
		want map[int]int
	}{
		{bare(), map[int]int{0: 0}},
		{chain(), map[int]int{0: 0, 6: 1, 2: 2, 4: 3, 1: 4}},
		{tree(), map[int]int{0: 0, 3: 1, 7: 1, 2: 2, 4: 2, 5: 2, 1: 3, 6: 3}},
		{idle(), map[int]int{0: 0, 3: 1, 4: 1, 5: 2}},
	} {
		if got := graph.Depths(x.l); !maps.Equal(got, x.want) {
			t.Errorf("%v: %d, not %d", x.l, got, x.want)
		}
	}
}

func TestPaths(t *testing.T) {
	wantPaths(t, bare())
	wantPaths(t, chain(), []int{0, 6, 2, 4, 1})
	wantPaths(t, tree(), []int{0, 3, 4}, []int{0, 6}, []int{0, 7, 2, 1}, []int{0, 7, 2, 6}, []int{0, 7, 4}, []int{0, 7, 5, 6})
	wantPaths(t, idle(), []int{0, 4})
	wantPaths(t, []api.Node{source(), operator(1, 0)})
	wantPaths(t, []api.Node{source(), operator(2, 0), sink(1, 2, 0), sink(3, 0, 2)}, []int{0, 1}, []int{0, 2, 1}, []int{0, 2, 3}, []int{0, 3})
}

func TestWalks(t *testing.T) {
	for _, l := range append(rights(), graph.Pass(3)) {
		wantError(t, modelCheck(l), api.OK)
		wantWalks(t, l)
	}
	for seed := range 2000 {
		c := chance(seed)
		wantWalks(t, c.graph())
		if t.Failed() {
			t.Fatalf("seed %d", seed)
		}
	}
}

// TestNoWalks: graphs that aren't right in one thing alone.
func TestNoWalks(t *testing.T) {
	for _, l := range wrongs() {
		wantNoWalks(t, l)
	}
	wantNoWalks(t, make([]api.Node, 100000))
	for seed := range 2000 {
		c := chance(seed)
		l := c.graph()
		c.spoil(&l[c.below(len(l))])
		if modelCheck(l) != api.OK {
			wantNoWalks(t, l)
		}
	}
}

// TestAnyOrder: where the nodes stand in the list is all one.
func TestAnyOrder(t *testing.T) {
	for seed := range 300 {
		c := chance(seed)
		l := c.graph()
		other := mixed(&c, l)
		wantNumbers(t, graph.Order(other), graph.Order(l)...)
		wantPaths(t, other, graph.Paths(l)...)
		if !maps.Equal(graph.Depths(other), graph.Depths(l)) {
			t.Errorf("%v: %d", other, graph.Depths(other))
		}
		for id := range 8 {
			wantNumbers(t, graph.Children(other, id), graph.Children(l, id)...)
			wantNumbers(t, graph.Below(other, id), graph.Below(l, id)...)
		}
	}
}
