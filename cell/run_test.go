package cell_test

import (
	"slices"
	"testing"

	"forebay/api"
	"forebay/cell"
)

// wantRun fails unless the words, run at a node with a record, put out the values with its key, and leave the cells.
func wantRun(t *testing.T, tab *cell.Table, node int, words string, r api.Rec, out, behind string) {
	t.Helper()
	var want []api.Rec
	for _, v := range values(t, out) {
		want = append(want, api.Rec{Key: r.Key, Val: v})
	}
	got, e := tab.Run(node, program(t, words), r)
	if e != api.OK || !slices.Equal(got, want) {
		t.Errorf("%q at %d of %v: %v with error %d, not %v", words, node, r, got, e, want)
	}
	if c := tab.Get(node, r.Key); c != cells(t, behind) {
		t.Errorf("%q at %d of %v leaves %v, not %s", words, node, r, c, behind)
	}
}

func TestRunOrdinary(t *testing.T) {
	tab := table(t)
	wantRun(t, tab, 3, sums, record(t, 5, "1"), "1", "1 0")
	wantRun(t, tab, 3, sums, record(t, 5, "1"), "2", "2 0")
	wantRun(t, tab, 3, sums, record(t, 5, "4-1i"), "6-1i", "6-1i 0")
	// Another key, another node: each has sums of its own.
	wantRun(t, tab, 3, sums, record(t, 13, "7"), "7", "7 0")
	wantRun(t, tab, 4, sums, record(t, 5, "9"), "9", "9 0")
	wantRun(t, tab, 3, sums, record(t, 5, "1"), "7-1i", "7-1i 0")
	wantAll(t, tab, entry(t, 3, 5, "7-1i 0"), entry(t, 3, 13, "7 0"), entry(t, 4, 5, "9 0"))
	// Another program goes on with what the one ahead left.
	wantRun(t, tab, 3, "LOAD 0; EMIT; IN; STORE 1", record(t, 5, "2"), "7-1i", "7-1i 2")
	wantRun(t, tab, 3, "LOAD 0; LOAD 1; STORE 0; STORE 1", record(t, 5, "3"), "", "2 7-1i")
	wantAll(t, tab, entry(t, 3, 5, "2 7-1i"), entry(t, 3, 13, "7 0"), entry(t, 4, 5, "9 0"))
}

// TestRunNone: a program that does nothing, or that leaves both cells as they are, puts out what it puts out.
func TestRunNone(t *testing.T) {
	tab := table(t, entry(t, 3, 5, "1 2-1i"))
	wantRun(t, tab, 3, "", record(t, 5, "7"), "", "1 2-1i")
	wantRun(t, tab, 3, "HALT", record(t, 5, "7"), "", "1 2-1i")
	wantRun(t, tab, 3, "IN; EMIT", record(t, 5, "7"), "7", "1 2-1i")
	wantRun(t, tab, 3, "LOAD 0; EMIT; LOAD 1; EMIT", record(t, 5, "7"), "1 2-1i", "1 2-1i")
	wantRun(t, tab, 3, "", record(t, 6, "7"), "", "0 0")
	wantRun(t, tab, 2, "IN; EMIT", record(t, 5, "7"), "7", "0 0")
	wantRun(t, tab, 2, "LOAD 0; EMIT; LOAD 1; EMIT", record(t, 5, "7"), "0 0", "0 0")
	wantAll(t, tab, entry(t, 3, 5, "1 2-1i"))
	if out, e := tab.Run(3, nil, record(t, 5, "7")); out != nil || e != api.OK {
		t.Error(out, e)
	}
}

// TestRunMany: what is put out has the record's key, each of up to four values, in order.
func TestRunMany(t *testing.T) {
	for _, key := range []int{0, 1, 7, 8, 62, 63} {
		for _, node := range []int{0, 3, 7} {
			tab := table(t, entry(t, node, key, "8 9-1i"))
			r := record(t, key, "3+4i")
			wantRun(t, tab, node, "IN; DROP", r, "", "8 9-1i")
			wantRun(t, tab, node, "IN; EMIT", r, "3+4i", "8 9-1i")
			wantRun(t, tab, node, "IN; EMIT; IN; EMIT", r, "3+4i 3+4i", "8 9-1i")
			wantRun(t, tab, node, "LOAD 0; EMIT; LOAD 1; EMIT; IN; EMIT; PUSH 1; EMIT", r, "8 9-1i 3+4i 1", "8 9-1i")
			wantRun(t, tab, node, "PUSH 1; EMIT; IN; EMIT; LOAD 1; EMIT; LOAD 0; EMIT; PUSH 0; STORE 0", r, "1 3+4i 9-1i 8", "0 9-1i")
			wantAll(t, tab, entry(t, node, key, "0 9-1i"))
		}
	}
}

// TestRunZero: where both cells become 0, at once or one by one, nothing is kept.
func TestRunZero(t *testing.T) {
	tab := table(t, entry(t, 3, 5, "1 2"), entry(t, 3, 6, "3 4"), entry(t, 4, 5, "5 6"), entry(t, 5, 5, "-7 0"))
	wantRun(t, tab, 3, "PUSH 0; STORE 0", record(t, 5, "1"), "", "0 2")
	wantAll(t, tab, entry(t, 3, 5, "0 2"), entry(t, 3, 6, "3 4"), entry(t, 4, 5, "5 6"), entry(t, 5, 5, "-7 0"))
	wantRun(t, tab, 3, "PUSH 0; STORE 1", record(t, 5, "1"), "", "0 0")
	wantAll(t, tab, entry(t, 3, 6, "3 4"), entry(t, 4, 5, "5 6"), entry(t, 5, 5, "-7 0"))
	wantRun(t, tab, 4, "IN; DUP; STORE 1; STORE 0", record(t, 5, "0"), "", "0 0")
	wantAll(t, tab, entry(t, 3, 6, "3 4"), entry(t, 5, 5, "-7 0"))
	// What is reckoned to be 0 is it.
	wantRun(t, tab, 5, sums, record(t, 5, "7"), "0", "0 0")
	wantAll(t, tab, entry(t, 3, 6, "3 4"))
	wantRun(t, tab, 3, "PUSH 0; STORE 1", record(t, 6, "1"), "", "3 0")
	wantRun(t, tab, 3, "PUSH 0; STORE 0", record(t, 6, "1"), "", "0 0")
	wantAll(t, tab)
	wantRun(t, tab, 3, sums, record(t, 6, "0"), "0", "0 0")
	wantAll(t, tab)
}

// TestRunRound: cells and records at the ends of what is right.
func TestRunRound(t *testing.T) {
	tab := table(t)
	wantRun(t, tab, 0, sums, record(t, 0, "524287-524288i"), "524287-524288i", "524287-524288i 0")
	wantRun(t, tab, 0, sums, record(t, 0, "1-1i"), "-524288+524287i", "-524288+524287i 0")
	wantRun(t, tab, 0, sums, record(t, 0, "-524288-524287i"), "0", "0 0")
	wantAll(t, tab)
}

// TestRunKeys: what runs with one key, at one node, changes no other cells.
func TestRunKeys(t *testing.T) {
	p := program(t, "LOAD 1; IN; STORE 1; STORE 0; LOAD 0; EMIT")
	tab, m := full(t)
	for node := range 8 {
		for key := range 64 {
			r := api.Rec{Key: key, Val: api.Val{Re: 100 + key, Im: node}}
			want := []api.Rec{{Key: key, Val: m[node][key][1]}}
			if got, e := tab.Run(node, p, r); e != api.OK || !slices.Equal(got, want) {
				t.Errorf("node %d: %v with error %d, not %v", node, got, e, want)
			}
			m[node][key] = [2]api.Val{m[node][key][1], r.Val}
			wantAll(t, tab, m.all()...)
		}
	}
	wantModel(t, tab, m)
}

// TestRunRefused: whether there is such a node, and the record is right, is asked first, then the program; the table is as it was.
func TestRunRefused(t *testing.T) {
	m := few(t)
	tab, empty := table(t, m.all()...), table(t)
	refuse := func(node int, p []api.Instr, r api.Rec, want api.Errno) {
		t.Helper()
		for _, x := range []*cell.Table{tab, empty} {
			out, e := x.Run(node, p, r)
			if out != nil || e != want {
				t.Errorf("node %d, %v of %v: %v with error %d, not %d", node, p, r, out, e, want)
			}
		}
		wantAll(t, tab, m.all()...)
		wantAll(t, empty)
	}
	ok := []api.Rec{record(t, 0, "1"), record(t, 5, "3-1i"), record(t, 63, "0")}
	var bad []api.Rec
	for _, key := range noKeys() {
		bad = append(bad, api.Rec{Key: key, Val: ok[0].Val}, api.Rec{Key: key, Val: wrong()[0]})
	}
	for _, v := range wrong() {
		bad = append(bad, api.Rec{Key: 5, Val: v}, api.Rec{Key: 0, Val: v}, api.Rec{Key: 64, Val: v})
	}
	for _, p := range unsafe(t) {
		kept := slices.Clone(p)
		for _, node := range []int{0, 3, 7} {
			for _, r := range ok {
				refuse(node, p, r, api.ErrCode)
			}
			for _, r := range bad {
				refuse(node, p, r, api.ErrArg)
			}
		}
		for _, node := range noNodes() {
			refuse(node, p, ok[1], api.ErrArg)
			refuse(node, p, bad[0], api.ErrArg)
		}
		if !slices.Equal(p, kept) {
			t.Errorf("%v was written into", kept)
		}
	}
	for _, p := range programs(t) {
		for _, r := range bad {
			refuse(3, p, r, api.ErrArg)
			refuse(8, p, r, api.ErrArg)
		}
		for _, node := range noNodes() {
			refuse(node, p, ok[1], api.ErrArg)
		}
	}
	wantModel(t, tab, m)
	wantModel(t, empty, &model{})
}
