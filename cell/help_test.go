package cell_test

import (
	"math"
	"slices"
	"strings"
	"testing"

	"forebay/api"
	"forebay/cell"
	"forebay/code"
	"forebay/gauss"
	"forebay/vm"
)

// The program of the chapter's example: it sums what comes, and puts out each sum.
const sums = "IN; LOAD 0; ADD; DUP; STORE 0; EMIT"

// program is the program of words.
func program(t *testing.T, words string) []api.Instr {
	t.Helper()
	p, e := code.Parse(words)
	if e != api.OK {
		t.Fatalf("%q are no words of a program", words)
	}
	return p
}

// values are the values of texts, parted by blanks; "+0i" may be left out.
func values(t *testing.T, texts string) []api.Val {
	t.Helper()
	var l []api.Val
	for _, s := range strings.Fields(texts) {
		if !strings.HasSuffix(s, "i") {
			s += "+0i"
		}
		v, e := gauss.Parse(s)
		if e != api.OK {
			t.Fatalf("%q is no value's text", s)
		}
		l = append(l, v)
	}
	return l
}

// cells are the two cells of texts.
func cells(t *testing.T, texts string) [2]api.Val {
	t.Helper()
	return [2]api.Val(values(t, texts))
}

// entry is what a node keeps of a key.
func entry(t *testing.T, node, key int, texts string) api.Entry {
	t.Helper()
	return api.Entry{Node: node, Key: key, Cells: cells(t, texts)}
}

// record is a record of a value's text.
func record(t *testing.T, key int, text string) api.Rec {
	t.Helper()
	return api.Rec{Key: key, Val: values(t, text)[0]}
}

// table is a table with entries, all of which are right.
func table(t *testing.T, l ...api.Entry) *cell.Table {
	t.Helper()
	tab, e := cell.New(l...)
	if tab == nil || e != api.OK {
		t.Fatalf("New(%v): error %d", l, e)
	}
	return tab
}

// wantAll fails unless a table keeps just the entries, in this order.
func wantAll(t *testing.T, tab *cell.Table, l ...api.Entry) {
	t.Helper()
	if got := tab.All(); !slices.Equal(got, l) {
		t.Errorf("%v is kept, not %v", got, l)
	}
}

// wantError fails unless an error is the one that is wanted.
func wantError(t *testing.T, got, want api.Errno) {
	t.Helper()
	if got != want {
		t.Errorf("error %d, not %d", got, want)
	}
}

// model has both cells of each node and key, those that are 0 too.
type model [api.MaxNodes][api.Keys][2]api.Val

// allGroups are the numbers of all groups.
func allGroups() []int { return []int{0, 1, 2, 3, 4, 5, 6, 7} }

// of is what is kept of a node, and keys of some groups.
func (m *model) of(node int, groups ...int) []api.Entry {
	var l []api.Entry
	if node < 0 || node > 7 {
		return nil
	}
	for key := range 64 {
		if c := m[node][key]; slices.Contains(groups, key%8) && c != [2]api.Val{} {
			l = append(l, api.Entry{Node: node, Key: key, Cells: c})
		}
	}
	return l
}

// all is all that is kept.
func (m *model) all() []api.Entry {
	var l []api.Entry
	for node := range m {
		l = append(l, m.of(node, allGroups()...)...)
	}
	return l
}

// drop lets nothing be kept of a node, and keys of some groups.
func (m *model) drop(node int, groups ...int) {
	for _, x := range m.of(node, groups...) {
		m[node][x.Key] = [2]api.Val{}
	}
}

// run is what a safe program puts out with a right record, at a node that there is.
func (m *model) run(node int, p []api.Instr, r api.Rec) []api.Rec {
	result, _ := vm.Run(p, r.Val, m[node][r.Key])
	m[node][r.Key] = result.Cells
	var l []api.Rec
	for _, v := range result.Out {
		l = append(l, api.Rec{Key: r.Key, Val: v})
	}
	return l
}

// wantModel fails unless a table keeps what the model does, whichever way it is asked.
func wantModel(t *testing.T, tab *cell.Table, m *model) {
	t.Helper()
	wantAll(t, tab, m.all()...)
	for node := -1; node <= 8; node++ {
		if got, want := tab.Of(node, allGroups()...), m.of(node, allGroups()...); !slices.Equal(got, want) {
			t.Errorf("node %d: %v, not %v", node, got, want)
		}
		for key := -1; key <= 64; key++ {
			var want [2]api.Val
			if node >= 0 && node < 8 && key >= 0 && key < 64 {
				want = m[node][key]
			}
			if got := tab.Get(node, key); got != want {
				t.Errorf("node %d, key %d: %v, not %v", node, key, got, want)
			}
		}
	}
}

// full is a table that keeps something at each place, and its model.
func full(t *testing.T) (*cell.Table, *model) {
	t.Helper()
	m := &model{}
	for node := range m {
		for key := range m[node] {
			m[node][key] = [2]api.Val{{Re: node + 1, Im: -key}, {Re: key - 64, Im: node}}
		}
	}
	return table(t, m.all()...), m
}

// noNodes are numbers of which there is no node.
func noNodes() []int {
	return []int{-1, 8, 9, 15, 16, -8, 63, 64, 256, 1 << 32, 1<<32 + 1, -1 << 32, math.MaxInt, math.MinInt}
}

// noKeys are numbers of which there is no key.
func noKeys() []int {
	return []int{-1, 64, 65, 127, 128, -63, -64, 256, 1 << 32, 1<<32 + 1, -1 << 32, math.MaxInt, math.MinInt}
}

// noGroups are numbers of which there is no group.
func noGroups() []int {
	return []int{-1, 8, 9, 15, 16, -7, -8, 63, 64, 1 << 32, 1<<32 + 1, -1 << 32, math.MaxInt, math.MinInt}
}

// wrong are values that aren't right; some of them are 0 modulo 2^20.
func wrong() []api.Val {
	var l []api.Val
	for _, n := range []int{1 << 19, -1<<19 - 1, 1 << 20, -1 << 20, 1 << 32, math.MaxInt, math.MinInt} {
		l = append(l, api.Val{Re: n}, api.Val{Im: n}, api.Val{Re: n, Im: n}, api.Val{Re: 1, Im: n}, api.Val{Re: n, Im: 1})
	}
	return l
}

// unsafe are programs that aren't safe: that don't fit, and others.
func unsafe(t *testing.T) [][]api.Instr {
	return [][]api.Instr{
		make([]api.Instr, 25),
		{{Op: 18}},
		{{Op: code.Load, A: 2}},
		program(t, "EMIT"),
		program(t, "IN; ADD"),
		program(t, "IN; STORE 0; STORE 1"),
		program(t, strings.Repeat("IN; EMIT; ", 4)+"IN; EMIT"),
	}
}

// chance makes numbers, other ones for each seed, and the same ones each time.
type chance uint64

// below is a number from 0 to n - 1.
func (c *chance) below(n int) int {
	*c = *c*6364136223846793005 + 1442695040888963407
	return int(uint64(*c)>>33) % n
}

// value is a value; often 0, or one whose parts are few, or at the ends.
func (c *chance) value() api.Val {
	switch c.below(4) {
	case 0:
		return api.Val{}
	case 1:
		return api.Val{Re: -1 << 19, Im: 1<<19 - 1}
	case 2:
		return api.Val{Re: c.below(3) - 1, Im: c.below(3) - 1}
	}
	return api.Val{Re: c.below(1<<20) - 1<<19, Im: c.below(1<<20) - 1<<19}
}

// groups are up to nine numbers, of groups and of none.
func (c *chance) groups() []int {
	var l []int
	for range c.below(10) {
		l = append(l, c.below(12)-2)
	}
	return l
}

// programs are safe programs that use cells in many ways.
func programs(t *testing.T) [][]api.Instr {
	t.Helper()
	var l [][]api.Instr
	for _, words := range []string{
		"",
		"IN; EMIT",
		sums,
		// What came last, and how many came.
		"IN; STORE 0; LOAD 1; PUSH 1; ADD; DUP; STORE 1; EMIT",
		"LOAD 0; LOAD 1; STORE 0; STORE 1",
		"IN; STORE 0",
		"IN; STORE 1",
		"PUSH 0; STORE 0",
		"PUSH 0; STORE 1",
		"PUSH 0; DUP; STORE 0; STORE 1",
		// Both cells become 0 where the input is.
		"IN; DUP; STORE 0; STORE 1",
		"IN; JZ 5; IN; DUP; STORE 0; EMIT; HALT; PUSH 0; STORE 0",
		"IN; EMIT; LOAD 0; EMIT; LOAD 1; EMIT; IN; LOAD 0; LOAD 1; MUL; SUB; DUP; STORE 1; EMIT",
	} {
		l = append(l, program(t, words))
	}
	return l
}
