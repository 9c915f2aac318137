package cell_test

import (
	"slices"
	"testing"

	"forebay/api"
)

// lists are lists of groups: none, one, several in any order, all, some twice, and some that there aren't.
func lists() [][]int {
	l := [][]int{
		nil, {}, allGroups(), {7, 6, 5, 4, 3, 2, 1, 0}, {5, 2}, {2, 5, 7}, {3, 3}, {3, 0, 3}, {7, 7, 7, 7, 7, 7, 7, 7, 7}, append(allGroups(), allGroups()...),
		{0, 8}, {-1, 6}, {8, 1, 16, 2}, noGroups(), append(noGroups(), 4), append([]int{4}, noGroups()...), slices.Repeat([]int{1, 6, 9}, 1000),
	}
	for g := range 8 {
		l = append(l, []int{g})
	}
	for _, g := range noGroups() {
		l = append(l, []int{g}, []int{g, g})
	}
	return l
}

// few is the model of a table that keeps something at some places.
func few(t *testing.T) *model {
	t.Helper()
	m := &model{}
	for _, x := range []api.Entry{
		entry(t, 0, 0, "1 0"), entry(t, 0, 8, "2 0"), entry(t, 0, 63, "3 0"), entry(t, 3, 1, "4 0"), entry(t, 3, 5, "5 0"), entry(t, 3, 13, "0 6"),
		entry(t, 3, 56, "7 7"), entry(t, 3, 62, "8 0"), entry(t, 4, 5, "9 0"), entry(t, 7, 0, "10 0"), entry(t, 7, 31, "0 11"), entry(t, 7, 63, "12 0"),
	} {
		m[x.Node][x.Key] = x.Cells
	}
	return m
}

func TestOf(t *testing.T) {
	tab := table(t, few(t).all()...)
	for _, x := range []struct {
		node   int
		groups []int
		want   []api.Entry
	}{
		{3, nil, nil},
		{3, []int{5}, []api.Entry{entry(t, 3, 5, "5 0"), entry(t, 3, 13, "0 6")}},
		{3, []int{0}, []api.Entry{entry(t, 3, 56, "7 7")}},
		{3, []int{2}, nil},
		{3, []int{5, 1}, []api.Entry{entry(t, 3, 1, "4 0"), entry(t, 3, 5, "5 0"), entry(t, 3, 13, "0 6")}},
		{3, []int{5, 5}, []api.Entry{entry(t, 3, 5, "5 0"), entry(t, 3, 13, "0 6")}},
		{3, []int{8, 13, -3, -8, 56}, nil},
		{3, []int{8, 6}, []api.Entry{entry(t, 3, 62, "8 0")}},
		{4, allGroups(), []api.Entry{entry(t, 4, 5, "9 0")}},
		{5, allGroups(), nil},
		{0, []int{0, 7}, []api.Entry{entry(t, 0, 0, "1 0"), entry(t, 0, 8, "2 0"), entry(t, 0, 63, "3 0")}},
		{7, []int{7}, []api.Entry{entry(t, 7, 31, "0 11"), entry(t, 7, 63, "12 0")}},
		{8, allGroups(), nil},
		{-1, allGroups(), nil},
	} {
		if got := tab.Of(x.node, x.groups...); !slices.Equal(got, x.want) {
			t.Errorf("node %d, groups %d: %v, not %v", x.node, x.groups, got, x.want)
		}
	}
}

// TestOfEach: each list of groups, of each node, that there is or isn't; the table is as it was.
func TestOfEach(t *testing.T) {
	tab, m := full(t)
	for _, node := range append(noNodes(), allGroups()...) {
		for _, groups := range lists() {
			if got, want := tab.Of(node, groups...), m.of(node, groups...); !slices.Equal(got, want) {
				t.Errorf("node %d, groups %d: %v, not %v", node, groups, got, want)
			}
		}
	}
	wantModel(t, tab, m)
}

func TestDrop(t *testing.T) {
	tab := table(t, few(t).all()...)
	tab.Drop(3)
	wantModel(t, tab, few(t))
	tab.Drop(3, 5, 0)
	wantAll(t, tab, entry(t, 0, 0, "1 0"), entry(t, 0, 8, "2 0"), entry(t, 0, 63, "3 0"), entry(t, 3, 1, "4 0"), entry(t, 3, 62, "8 0"),
		entry(t, 4, 5, "9 0"), entry(t, 7, 0, "10 0"), entry(t, 7, 31, "0 11"), entry(t, 7, 63, "12 0"))
	tab.Drop(0, 7, 7)
	wantAll(t, tab, entry(t, 0, 0, "1 0"), entry(t, 0, 8, "2 0"), entry(t, 3, 1, "4 0"), entry(t, 3, 62, "8 0"),
		entry(t, 4, 5, "9 0"), entry(t, 7, 0, "10 0"), entry(t, 7, 31, "0 11"), entry(t, 7, 63, "12 0"))
	tab.Drop(7, allGroups()...)
	wantAll(t, tab, entry(t, 0, 0, "1 0"), entry(t, 0, 8, "2 0"), entry(t, 3, 1, "4 0"), entry(t, 3, 62, "8 0"), entry(t, 4, 5, "9 0"))
	tab.Drop(8, allGroups()...)
	tab.Drop(0, 8, -8, 16)
	tab.Drop(5, allGroups()...)
	wantAll(t, tab, entry(t, 0, 0, "1 0"), entry(t, 0, 8, "2 0"), entry(t, 3, 1, "4 0"), entry(t, 3, 62, "8 0"), entry(t, 4, 5, "9 0"))
	// What was dropped is as what never was kept.
	wantError(t, tab.Set(7, 63, cells(t, "0 1")), api.OK)
	if out, e := tab.Run(3, program(t, sums), record(t, 5, "2")); e != api.OK || !slices.Equal(out, []api.Rec{record(t, 5, "2")}) {
		t.Error(out, e)
	}
	wantAll(t, tab, entry(t, 0, 0, "1 0"), entry(t, 0, 8, "2 0"), entry(t, 3, 1, "4 0"), entry(t, 3, 5, "2 0"), entry(t, 3, 62, "8 0"), entry(t, 4, 5, "9 0"), entry(t, 7, 63, "0 1"))
}

// TestDropEach: each list of groups, of each node, that there is or isn't; dropped twice is as once.
func TestDropEach(t *testing.T) {
	all, of := full(t)
	for _, node := range append(noNodes(), allGroups()...) {
		for _, groups := range lists() {
			tab, m := all.Copy(), *of
			m.drop(node, groups...)
			tab.Drop(node, groups...)
			wantAll(t, tab, m.all()...)
			tab.Drop(node, groups...)
			wantAll(t, tab, m.all()...)
		}
	}
}

// TestParts: of all groups each entry is one's; what one drops is what it told.
func TestParts(t *testing.T) {
	tab, m := full(t)
	left := len(m.all())
	for node := range 8 {
		for g := range 8 {
			l := tab.Of(node, g)
			if len(l) != 8 {
				t.Errorf("node %d, group %d: %v", node, g, l)
			}
			for _, x := range l {
				if x.Node != node || x.Key%8 != g || x.Cells != m[node][x.Key] {
					t.Errorf("node %d, group %d: %v", node, g, x)
				}
			}
			tab.Drop(node, g)
			left -= len(l)
			if len(tab.All()) != left || tab.Of(node, g) != nil {
				t.Errorf("node %d, group %d: %v", node, g, tab.All())
			}
		}
	}
	wantModel(t, tab, &model{})
}
