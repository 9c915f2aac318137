package cell_test

import (
	"slices"
	"testing"

	"forebay/api"
	"forebay/cell"
)

// both are a table and its model, to which the same is done.
type both struct {
	tab *cell.Table
	m   *model
}

// do does something to both that chance picks, right or wrong, and fails unless they answer alike.
func (b *both) do(t *testing.T, c *chance, ps [][]api.Instr) {
	t.Helper()
	// Few places, so that the same ones are met again; now and then one that isn't there.
	node, key := c.below(10)-1, c.below(24)
	if key >= 20 {
		key = []int{-1, 62, 63, 64}[key-20]
	}
	right := node >= 0 && node < 8 && key >= 0 && key < 64
	switch c.below(8) {
	case 0, 1:
		cells := [2]api.Val{c.value(), c.value()}
		if e := b.tab.Set(node, key, cells); (e == api.OK) != right {
			t.Fatalf("Set(%d, %d, %v): error %d", node, key, cells, e)
		}
		if right {
			b.m[node][key] = cells
		}
	case 2:
		groups := c.groups()
		b.tab.Drop(node, groups...)
		b.m.drop(node, groups...)
	case 3:
		groups := c.groups()
		if got, want := b.tab.Of(node, groups...), b.m.of(node, groups...); !slices.Equal(got, want) {
			t.Fatalf("Of(%d, %d): %v, not %v", node, groups, got, want)
		}
	default:
		r, p := api.Rec{Key: key, Val: c.value()}, ps[c.below(len(ps))]
		var want []api.Rec
		if right {
			want = b.m.run(node, p, r)
		}
		if got, e := b.tab.Run(node, p, r); (e == api.OK) != right || !slices.Equal(got, want) {
			t.Fatalf("Run(%d, %v, %v): %v with error %d, not %v", node, p, r, got, e, want)
		}
	}
}

// TestModel: whatever is set, run, dropped and asked, in any order, the table is what the model is; so are its copies.
func TestModel(t *testing.T) {
	ps := programs(t)
	for seed := range 300 {
		c := chance(seed)
		l := []both{{table(t), &model{}}}
		for step := range 120 {
			at := c.below(len(l))
			l[at].do(t, &c, ps)
			if step%40 == 0 {
				m := *l[at].m
				l = append(l, both{l[at].tab.Copy(), &m})
			}
			if step%10 == 0 {
				for _, b := range l {
					wantAll(t, b.tab, b.m.all()...)
				}
			}
		}
		for _, b := range l {
			wantModel(t, b.tab, b.m)
			// What is told of it makes one that keeps the same.
			wantModel(t, table(t, b.tab.All()...), b.m)
		}
		if t.Failed() {
			t.Fatalf("seed %d", seed)
		}
	}
}

// byKey are records, parted by their keys.
func byKey(l []api.Rec) [64][]api.Rec {
	var parts [64][]api.Rec
	for _, r := range l {
		parts[r.Key] = append(parts[r.Key], r)
	}
	return parts
}

// runAll is what a table puts out with all records at a node, key by key.
func runAll(t *testing.T, tab *cell.Table, node int, p []api.Instr, l []api.Rec) [64][]api.Rec {
	t.Helper()
	var all []api.Rec
	for _, r := range l {
		out, e := tab.Run(node, p, r)
		if e != api.OK {
			t.Fatalf("%v: error %d", r, e)
		}
		all = append(all, out...)
	}
	return byKey(all)
}

// mix is the same records in another order, in which those of one key stand as they stood.
func mix(c *chance, l []api.Rec) []api.Rec {
	parts := byKey(l)
	var mixed []api.Rec
	for len(mixed) < len(l) {
		key := c.below(64)
		if len(parts[key]) > 0 {
			mixed = append(mixed, parts[key][0])
			parts[key] = parts[key][1:]
		}
	}
	return mixed
}

// TestOrder: records of unlike keys may come in any order: what is put out of each key, and what is kept, is the same.
func TestOrder(t *testing.T) {
	for seed, p := range programs(t) {
		c := chance(seed)
		for range 10 {
			first, _ := full(t)
			second := first.Copy()
			var l []api.Rec
			for range 200 {
				l = append(l, api.Rec{Key: 5 * c.below(13), Val: c.value()})
			}
			node := c.below(8)
			a, b := runAll(t, first, node, p, l), runAll(t, second, node, p, mix(&c, l))
			for key := range a {
				if !slices.Equal(a[key], b[key]) {
					t.Errorf("key %d: %v, not %v", key, b[key], a[key])
				}
			}
			wantAll(t, second, first.All()...)
		}
	}
}

// TestKept: no argument is written into, and none that is written into later changes the table.
func TestKept(t *testing.T) {
	l := []api.Entry{entry(t, 7, 3, "1 2"), entry(t, 3, 9, "3 4"), entry(t, 3, 5, "5 6"), entry(t, 3, 9, "7 8"), entry(t, 0, 0, "0 0"), {Node: 6}}[:5]
	kept := slices.Clone(l[:6])
	tab := table(t, l...)
	want := []api.Entry{kept[2], kept[3], kept[0]}
	if !slices.Equal(l[:6], kept) {
		t.Errorf("%v, not %v", l[:6], kept)
	}
	clear(l)
	wantAll(t, tab, want...)

	groups := []int{5, 1, 5, 9, -1, 1, 77}[:6]
	tab.Of(3, groups...)
	tab.Copy().Drop(3, groups...)
	if !slices.Equal(groups[:7], []int{5, 1, 5, 9, -1, 1, 77}) {
		t.Errorf("%d", groups[:7])
	}

	p := program(t, sums)
	tab.Run(3, p, record(t, 5, "1"))
	if !slices.Equal(p, program(t, sums)) {
		t.Errorf("%v", p)
	}
	clear(p)
	want[0].Cells[0] = values(t, "6")[0]
	wantAll(t, tab, want...)
}

// TestNew: what is answered is memory of its own: written into, it changes neither the table nor another answer.
func TestNew(t *testing.T) {
	tab, m := full(t)
	spoil := func(l []api.Entry) {
		for at := range l {
			l[at] = api.Entry{Node: 1, Key: 1, Cells: [2]api.Val{{Re: 77}, {Im: 77}}}
		}
		_ = append(l[:len(l)/2], api.Entry{Node: 2, Key: 2})
	}
	all, of := tab.All(), tab.Of(3, 5, 6)
	spoil(tab.All())
	spoil(tab.Of(3, 5, 6))
	if !slices.Equal(all, m.all()) || !slices.Equal(of, m.of(3, 5, 6)) {
		t.Error(all, of)
	}
	spoil(all)
	spoil(of)
	wantModel(t, tab, m)

	p, r := program(t, "IN; EMIT; LOAD 0; EMIT; LOAD 1; EMIT"), record(t, 5, "1-1i")
	want := []api.Rec{{Key: 5, Val: r.Val}, {Key: 5, Val: m[3][5][0]}, {Key: 5, Val: m[3][5][1]}}
	a, _ := tab.Run(3, p, r)
	b, _ := tab.Run(3, p, r)
	for at := range a {
		a[at] = record(t, 9, "77")
	}
	_ = append(a[:1], record(t, 9, "78"), record(t, 9, "79"))
	c, _ := tab.Run(3, p, r)
	if !slices.Equal(b, want) || !slices.Equal(c, want) {
		t.Error(b, c, want)
	}
	got := tab.Get(3, 5)
	got[0] = r.Val
	wantModel(t, tab, m)
}

// TestAsked: what only asks changes nothing, and tells the same again.
func TestAsked(t *testing.T) {
	tab, m := full(t)
	tab.Drop(2, 1, 3)
	m.drop(2, 1, 3)
	for range 20 {
		wantModel(t, tab, m)
		wantAll(t, tab.Copy(), m.all()...)
	}
}
