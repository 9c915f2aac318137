package cell_test

import (
	"math"
	"slices"
	"testing"

	"forebay/api"
	"forebay/cell"
)

func TestGroup(t *testing.T) {
	for key, want := range map[int]int{
		0: 0, 1: 1, 7: 7, 8: 0, 9: 1, 62: 6, 63: 7, 64: 0, 71: 7, 1 << 32: 0, 1<<32 + 5: 5, math.MaxInt: 7, math.MaxInt - 7: 0,
		-1: 7, -2: 6, -7: 1, -8: 0, -9: 7, -64: 0, -65: 7, -1<<32 - 1: 7, math.MinInt: 0, math.MinInt + 1: 1, math.MinInt + 7: 7,
	} {
		if got := cell.Group(key); got != want {
			t.Errorf("%d: %d, not %d", key, got, want)
		}
	}
	want := 0
	for key := -800; key <= 800; key++ {
		if got := cell.Group(key); got != want {
			t.Errorf("%d: %d, not %d", key, got, want)
		}
		want++
		if want == 8 {
			want = 0
		}
	}
}

func TestRight(t *testing.T) {
	ends := []int{-1 << 19, -1<<19 + 1, -1, 0, 1, 1<<19 - 2, 1<<19 - 1}
	for key := range 64 {
		for _, re := range ends {
			for _, im := range ends {
				if r := (api.Rec{Key: key, Val: api.Val{Re: re, Im: im}}); !cell.Right(r) {
					t.Errorf("%v isn't right", r)
				}
			}
		}
		for _, v := range wrong() {
			if r := (api.Rec{Key: key, Val: v}); cell.Right(r) {
				t.Errorf("%v is right", r)
			}
		}
	}
	for _, key := range noKeys() {
		for _, v := range append(wrong(), values(t, "0 1 3-1i -524288+524287i")...) {
			if r := (api.Rec{Key: key, Val: v}); cell.Right(r) {
				t.Errorf("%v is right", r)
			}
		}
	}
}

func TestNewEmpty(t *testing.T) {
	wantModel(t, table(t), &model{})
	wantModel(t, table(t, []api.Entry{}...), &model{})
	// Each is a table of its own.
	a, b := table(t), table(t)
	a.Set(1, 2, cells(t, "3 4"))
	wantAll(t, b)
	wantAll(t, a, entry(t, 1, 2, "3 4"))
}

func TestNewOrdinary(t *testing.T) {
	wantAll(t, table(t, entry(t, 3, 5, "1 2-1i")), entry(t, 3, 5, "1 2-1i"))
	// In whatever order they are told.
	wantAll(t, table(t, entry(t, 7, 0, "1 0"), entry(t, 0, 63, "0 1"), entry(t, 7, 63, "2 3"), entry(t, 3, 10, "0-1i 0"), entry(t, 3, 9, "4 4"), entry(t, 0, 0, "5 6")),
		entry(t, 0, 0, "5 6"), entry(t, 0, 63, "0 1"), entry(t, 3, 9, "4 4"), entry(t, 3, 10, "0-1i 0"), entry(t, 7, 0, "1 0"), entry(t, 7, 63, "2 3"))
	// Cells at the ends of what is right.
	ends := entry(t, 0, 0, "-524288+524287i 524287-524288i")
	wantAll(t, table(t, ends), ends)
}

// TestNewTwice: of two entries for one place the last one holds, be it 0.
func TestNewTwice(t *testing.T) {
	wantAll(t, table(t, entry(t, 3, 5, "1 2"), entry(t, 3, 5, "8 9")), entry(t, 3, 5, "8 9"))
	wantAll(t, table(t, entry(t, 3, 5, "1 2"), entry(t, 3, 5, "0 9")), entry(t, 3, 5, "0 9"))
	wantAll(t, table(t, entry(t, 3, 5, "8 9"), entry(t, 4, 5, "7 7"), entry(t, 3, 5, "1 2")), entry(t, 3, 5, "1 2"), entry(t, 4, 5, "7 7"))
	wantAll(t, table(t, entry(t, 3, 5, "1 2"), entry(t, 3, 5, "0 0")))
	wantAll(t, table(t, entry(t, 3, 5, "0 0"), entry(t, 3, 5, "1 2")), entry(t, 3, 5, "1 2"))
	wantAll(t, table(t, entry(t, 3, 5, "1 2"), entry(t, 3, 5, "0 0"), entry(t, 3, 5, "3 0")), entry(t, 3, 5, "3 0"))
	wantAll(t, table(t, entry(t, 3, 5, "0 0"), entry(t, 0, 0, "0 0")))
}

func TestNewMany(t *testing.T) {
	tab, m := full(t)
	wantModel(t, tab, m)
	// Backwards, and each place twice.
	l := m.all()
	slices.Reverse(l)
	wantModel(t, table(t, l...), m)
	for at := range l {
		l[at].Cells = [2]api.Val{{Re: 9}, {Im: 9}}
	}
	wantModel(t, table(t, append(l, m.all()...)...), m)
	wantModel(t, table(t, slices.Repeat(m.all(), 20)...), m)
}

// wrongEntries are entries that aren't right: one thing of each, or all.
func wrongEntries(t *testing.T) []api.Entry {
	t.Helper()
	var l []api.Entry
	for _, node := range noNodes() {
		l = append(l, entry(t, node, 5, "1 2"), entry(t, node, 0, "0 0"))
	}
	for _, key := range noKeys() {
		l = append(l, entry(t, 3, key, "1 2"), entry(t, 0, key, "0 0"))
	}
	for _, v := range wrong() {
		l = append(l, api.Entry{Node: 3, Key: 5, Cells: [2]api.Val{v, {}}}, api.Entry{Cells: [2]api.Val{{Re: 1}, v}}, api.Entry{Node: 7, Key: 63, Cells: [2]api.Val{v, v}})
	}
	return append(l, api.Entry{Node: 8, Key: 64, Cells: [2]api.Val{wrong()[0], wrong()[1]}})
}

func TestNewRefused(t *testing.T) {
	ok := []api.Entry{entry(t, 1, 2, "3 4"), entry(t, 0, 0, "5 6"), entry(t, 7, 63, "0 0")}
	for _, x := range wrongEntries(t) {
		for at := range len(ok) + 1 {
			tab, e := cell.New(slices.Insert(slices.Clone(ok), at, x)...)
			if tab != nil || e != api.ErrArg {
				t.Errorf("%v: error %d, table %v", x, e, tab)
			}
		}
		if tab, e := cell.New(x); tab != nil || e != api.ErrArg {
			t.Errorf("%v: error %d, table %v", x, e, tab)
		}
	}
}

func TestGet(t *testing.T) {
	tab, m := full(t)
	tab.Set(3, 5, [2]api.Val{})
	m[3][5] = [2]api.Val{}
	wantModel(t, tab, m)
	for _, node := range noNodes() {
		for _, key := range append(noKeys(), 0, 5, 63) {
			if c := tab.Get(node, key); c != [2]api.Val{} {
				t.Errorf("node %d, key %d: %v", node, key, c)
			}
		}
	}
	for _, key := range noKeys() {
		for node := range 8 {
			if c := tab.Get(node, key); c != [2]api.Val{} {
				t.Errorf("node %d, key %d: %v", node, key, c)
			}
		}
	}
}

// TestSetEach: what is set at one place is kept there, and nowhere else.
func TestSetEach(t *testing.T) {
	for node := range 8 {
		for key := range 64 {
			tab, m := table(t, entry(t, 3, 5, "1 2")), &model{}
			m[3][5] = cells(t, "1 2")
			m[node][key] = cells(t, "7-8i -9")
			wantError(t, tab.Set(node, key, m[node][key]), api.OK)
			wantModel(t, tab, m)
		}
	}
}

// TestSetZero: where both cells become 0, at once or one by one, nothing is kept.
func TestSetZero(t *testing.T) {
	for _, way := range [][]string{
		{"0 0"},
		{"1 2", "0 0"},
		{"1 2", "0 2", "0 0"},
		{"1 2", "1 0", "0 0"},
		{"0+1i 0", "0 0"},
		{"0 0+1i", "0 0"},
		{"1 2", "0 0", "0 0"},
		{"1 2", "0 0", "3 0", "0 0"},
	} {
		tab := table(t, entry(t, 3, 4, "8 0"), entry(t, 4, 5, "0 9"))
		for _, s := range way {
			wantError(t, tab.Set(3, 5, cells(t, s)), api.OK)
			if got := tab.Get(3, 5); got != cells(t, s) {
				t.Errorf("%q: %v", s, got)
			}
			if s == "0 0" {
				wantAll(t, tab, entry(t, 3, 4, "8 0"), entry(t, 4, 5, "0 9"))
			} else {
				wantAll(t, tab, entry(t, 3, 4, "8 0"), entry(t, 3, 5, s), entry(t, 4, 5, "0 9"))
			}
		}
	}
	tab, m := full(t)
	for _, x := range m.all() {
		wantError(t, tab.Set(x.Node, x.Key, [2]api.Val{}), api.OK)
	}
	wantModel(t, tab, &model{})
}

func TestSetRefused(t *testing.T) {
	tab, m := full(t)
	empty := table(t)
	for _, x := range wrongEntries(t) {
		wantError(t, tab.Set(x.Node, x.Key, x.Cells), api.ErrArg)
		wantError(t, empty.Set(x.Node, x.Key, x.Cells), api.ErrArg)
		wantAll(t, tab, m.all()...)
		wantAll(t, empty)
	}
	wantModel(t, tab, m)
	wantModel(t, empty, &model{})
}

func TestCopy(t *testing.T) {
	tab, m := full(t)
	double := tab.Copy()
	wantModel(t, double, m)
	// What is done to the one isn't to the other: anew, to what is there, and away.
	p, other := program(t, sums), *m
	tab.Set(3, 5, [2]api.Val{})
	tab.Set(3, 6, cells(t, "7 7"))
	tab.Run(3, p, record(t, 7, "1"))
	tab.Drop(4, allGroups()...)
	wantModel(t, double, m)
	other[3][5] = [2]api.Val{}
	other[3][6] = cells(t, "7 7")
	other.run(3, p, record(t, 7, "1"))
	other.drop(4, allGroups()...)
	wantModel(t, tab, &other)
	double.Set(4, 1, cells(t, "6 6"))
	double.Set(0, 1, [2]api.Val{})
	double.Run(0, p, record(t, 7, "1"))
	double.Drop(5, 1, 2)
	wantModel(t, tab, &other)
	m[4][1] = cells(t, "6 6")
	m[0][1] = [2]api.Val{}
	m.run(0, p, record(t, 7, "1"))
	m.drop(5, 1, 2)
	wantModel(t, double, m)
}

// TestCopyEmpty: of a table that keeps nothing there is one, too, of its own.
func TestCopyEmpty(t *testing.T) {
	a := table(t)
	b := a.Copy()
	c := b.Copy()
	if b == nil || c == nil {
		t.Fatal("there is none")
	}
	a.Set(1, 1, cells(t, "1 1"))
	b.Set(2, 2, cells(t, "2 2"))
	wantAll(t, a, entry(t, 1, 1, "1 1"))
	wantAll(t, b, entry(t, 2, 2, "2 2"))
	wantAll(t, c)
}

func TestNil(t *testing.T) {
	var tab *cell.Table
	for _, at := range [][2]int{{0, 0}, {3, 5}, {7, 63}, {-1, 5}, {3, 64}, {math.MaxInt, math.MinInt}} {
		if c := tab.Get(at[0], at[1]); c != [2]api.Val{} {
			t.Error(c)
		}
		for _, c := range [][2]api.Val{{}, cells(t, "1 2"), {wrong()[0]}} {
			wantError(t, tab.Set(at[0], at[1], c), api.ErrArg)
		}
		for _, words := range []string{"", "IN; EMIT", "EMIT"} {
			out, e := tab.Run(at[0], program(t, words), record(t, at[1], "1"))
			if out != nil || e != api.ErrArg {
				t.Error(out, e)
			}
		}
		tab.Drop(at[0])
		tab.Drop(at[0], allGroups()...)
		if tab.Of(at[0]) != nil || tab.Of(at[0], allGroups()...) != nil {
			t.Error(tab.Of(at[0]), tab.Of(at[0], allGroups()...))
		}
	}
	if tab.All() != nil || tab.Copy() != nil {
		t.Error(tab.All(), tab.Copy())
	}
}

// TestZero: a table that New didn't make keeps nothing, and takes all.
func TestZero(t *testing.T) {
	wantModel(t, &cell.Table{}, &model{})
	wantModel(t, (&cell.Table{}).Copy(), &model{})
	tab := &cell.Table{}
	tab.Drop(3, allGroups()...)
	wantError(t, tab.Set(3, 5, [2]api.Val{}), api.OK)
	wantAll(t, tab)
	wantError(t, tab.Set(3, 5, cells(t, "1 2")), api.OK)
	wantAll(t, tab, entry(t, 3, 5, "1 2"))
	tab = &cell.Table{}
	if _, e := tab.Run(3, program(t, sums), record(t, 5, "1")); e != api.OK {
		t.Error(e)
	}
	wantAll(t, tab, entry(t, 3, 5, "1 0"))
}
