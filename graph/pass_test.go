package graph_test

import (
	"testing"

	"forebay/api"
	"forebay/graph"
)

// wantPass fails unless Pass tells what is said of it.
func wantPass(t *testing.T, par int) {
	t.Helper()
	held, route := par, [8]int{}
	switch {
	case par < 1:
		held = 1
	case par > 3:
		held = 3
	}
	switch held {
	case 2:
		route = [8]int{0, 1, 0, 1, 0, 1, 0, 1}
	case 3:
		route = [8]int{0, 1, 2, 0, 1, 2, 0, 1}
	}
	l := graph.Pass(par)
	wantNodes(t, l, []api.Node{{Id: 0, Kind: 0, Par: held, Route: route}, {Id: 1, Kind: 2, From: []int{0}, Par: held, Route: route}})
	wantError(t, graph.Check(l), api.OK)
	wantNumbers(t, graph.Order(l), 0, 1)
	wantNumbers(t, graph.Below(l, 0), 1)
	wantPaths(t, l, []int{0, 1})
	wantWalks(t, l)
}

func TestPass(t *testing.T) {
	for _, par := range append(far(), 0, 1, 2, 3, 4, 5, 8, -1, -2, -3) {
		wantPass(t, par)
	}
}

// TestExample is the chapter's.
func TestExample(t *testing.T) {
	wantError(t, graph.Check(graph.Pass(2)), api.OK)
	wantNumbers(t, graph.Order(graph.Pass(2)), 0, 1)
}
