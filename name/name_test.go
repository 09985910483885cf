package name

import (
	"math"
	"slices"
	"strings"
	"testing"

	"livery/api"
	"livery/clog"
)

// tab is a table of that name and relation.
func tab(name string, rel int) api.Table {
	return api.Table{Name: name, Cols: []api.Column{{Name: "a", Kind: api.Int}}, Rel: rel}
}

// begun is a log in which n transactions run.
func begun(n int) *clog.Log {
	l := clog.New()
	for range n {
		l.Begin(false)
	}
	return l
}

// next is who begins next.
func next(t *testing.T, l *clog.Log) int {
	t.Helper()
	xid, err := l.Begin(false)
	if err != api.OK {
		t.Fatalf("Begin: %d", err)
	}
	return xid
}

// put fails unless that is what Put answers.
func put(t *testing.T, n *Names, l *clog.Log, xid int, x api.Table, want api.Errno) {
	t.Helper()
	if err := n.Put(l, xid, x); err != want {
		t.Fatalf("Put(%d, %v): %d, wanted %d", xid, x, err, want)
	}
}

func drop(t *testing.T, n *Names, l *clog.Log, xid int, name string, want api.Errno) {
	t.Helper()
	if err := n.Drop(l, xid, name); err != want {
		t.Fatalf("Drop(%d, %q): %d, wanted %d", xid, name, err, want)
	}
}

// answer is what is told of a transaction and a name.
type answer struct {
	rel    int // 0: it sees none
	err    api.Errno
	who    int
	unseen []int
}

func asked(t *testing.T, n *Names, l *clog.Log, xid int, name string, want answer) {
	t.Helper()
	x, ok := n.See(l, xid, name)
	if ok != (want.rel > 0) || x.Rel != want.rel || ok && x.Name != name || !ok && (x.Name != "" || x.Cols != nil) {
		t.Fatalf("See(%d, %q): %v, %t, wanted relation %d", xid, name, x, ok, want.rel)
	}
	if err, who := n.May(l, xid, name); err != want.err || who != want.who {
		t.Fatalf("May(%d, %q): %d, %d, wanted %d, %d", xid, name, err, who, want.err, want.who)
	}
	if got := n.Unseen(l, xid, name); !slices.Equal(got, want.unseen) {
		t.Fatalf("Unseen(%d, %q): %v, wanted %v", xid, name, got, want.unseen)
	}
}

// seen is a table by its name and relation.
type seen struct {
	name string
	rel  int
}

func list(n *Names, l *clog.Log, xid int) []seen {
	var out []seen
	for _, x := range n.All(l, xid) {
		out = append(out, seen{x.Name, x.Rel})
	}
	return out
}

func all(t *testing.T, n *Names, l *clog.Log, xid int, want ...seen) {
	t.Helper()
	if got := list(n, l, xid); !slices.Equal(got, want) {
		t.Fatalf("All(%d): %v, wanted %v", xid, got, want)
	}
}

func TestExamples(t *testing.T) {
	l, n := begun(2), New()
	put(t, n, l, 1, tab("t", 1), api.OK)
	asked(t, n, l, 2, "t", answer{err: api.ErrWaits, who: 1, unseen: []int{1}})
	asked(t, n, l, 1, "t", answer{rel: 1})
}

func TestNewHasNone(t *testing.T) {
	l, n := begun(1), New()
	for _, name := range []string{"", "a", "A", "ninechars", strings.Repeat("x", 9999)} {
		for _, xid := range []int{-1, 0, 1, 2} {
			asked(t, n, l, xid, name, answer{})
			all(t, n, l, xid)
		}
		drop(t, n, l, 1, name, api.ErrNone)
	}
}

func TestNil(t *testing.T) {
	l := begun(1)
	for _, l := range []*clog.Log{l, nil} {
		for _, n := range []*Names{nil, New()} {
			err := api.ErrArg
			if n != nil {
				err = api.OK
			}
			for _, xid := range []int{0, 1, 2} {
				asked(t, n, l, xid, "a", answer{err: err})
				all(t, n, l, xid)
			}
		}
		put(t, nil, l, 1, tab("a", 1), api.ErrArg)
		drop(t, nil, l, 1, "a", api.ErrArg)
	}
	n := New()
	put(t, n, nil, 1, tab("a", 1), api.ErrArg)
	drop(t, n, nil, 1, "a", api.ErrArg)
	all(t, n, l, 1)
}

// TestWhoDoesNotRun is told ErrArg, ahead of all else, and does nothing.
func TestWhoDoesNotRun(t *testing.T) {
	l, n := begun(4), New()
	put(t, n, l, 1, tab("a", 1), api.OK)
	l.Commit(1)
	put(t, n, l, 2, tab("b", 2), api.OK)
	l.Abort(2)
	put(t, n, l, 3, tab("c", 3), api.OK)
	for _, xid := range []int{math.MinInt, -1, 0, 1, 2, 5, api.MaxTx, api.MaxTx + 1, 1<<8 + 3, 1<<16 + 3, 1<<32 + 3, math.MaxInt} {
		for _, name := range []string{"a", "b", "c", "d", "", "A"} {
			put(t, n, l, xid, tab(name, 4), api.ErrArg)
			drop(t, n, l, xid, name, api.ErrArg)
		}
	}
	all(t, n, l, 3, seen{"c", 3})
	all(t, n, l, next(t, l), seen{"a", 1})
}

// TestTablesThatAreNone: what a table must be, ahead of all else that is asked.
func TestTablesThatAreNone(t *testing.T) {
	l, n := begun(2), New()
	put(t, n, l, 2, tab("a", 1), api.OK)
	for i := range api.MaxTables - 1 {
		put(t, n, l, 2, tab("b"+string(rune('0'+i)), 1), api.OK)
	}
	col := api.Column{Name: "a", Kind: api.Int}
	bad := []api.Table{
		{},
		{Name: "a"},
		{Name: "a", Rel: 1},
		{Name: "a", Rel: 1, Cols: []api.Column{}},
		{Name: "a", Rel: 1, Cols: []api.Column{col, col}},
		{Name: "a", Rel: 1, Cols: []api.Column{{Name: "a"}}},
		{Name: "a", Rel: 1, Cols: []api.Column{{Name: "a", Kind: api.Text + 1}}},
		{Name: "a", Rel: 1, Cols: []api.Column{{Name: "A", Kind: api.Int}}},
		{Name: "a", Rel: 1, Cols: []api.Column{{Name: "a", Kind: api.Int, Default: api.Value{Kind: api.Bool}}}},
		{Name: "a", Rel: 1, Cols: []api.Column{{Name: "a", Kind: api.Int, Default: api.Value{F: 1}}}},
		{Name: "a", Rel: 1, Cols: []api.Column{{Name: "a", Kind: api.Int}, {Name: "b", Kind: api.Int}, {Name: "c", Kind: api.Int}, {Name: "d", Kind: api.Int}, {Name: "e", Kind: api.Int}, {Name: "f", Kind: api.Int}, {Name: "g", Kind: api.Int}}},
	}
	for _, name := range []string{"", "A", "1", "_a", "a ", "a-b", "ninechars", "\x00", "\xff"} {
		bad = append(bad, tab(name, 1))
	}
	for _, rel := range []int{math.MinInt, -1, 0, api.MaxRels + 1, 1<<8 + 1, 1<<16 + 1, 1<<32 + 1, math.MaxInt} {
		bad = append(bad, tab("a", rel), tab("c", rel))
	}
	for _, x := range bad {
		for xid := range 4 {
			put(t, n, l, xid, x, api.ErrArg)
		}
	}
	if got := n.All(l, 2); len(got) != api.MaxTables {
		t.Fatalf("All: %v", got)
	}
}

// TestTheEdgesOfATable are tables that are just good.
func TestTheEdgesOfATable(t *testing.T) {
	l, n := begun(1), New()
	six := []api.Column{{Name: "a", Kind: api.Bool, NotNull: true}, {Name: "b", Kind: api.Int}, {Name: "c", Kind: api.Float, Default: api.Value{Kind: api.Float, F: 0.5}}, {Name: "d", Kind: api.Text, NotNull: true, Default: api.Value{Kind: api.Text, S: strings.Repeat("x", api.MaxText)}}, {Name: "e", Kind: api.Int}, {Name: "f", Kind: api.Int}}
	for i, x := range []api.Table{{Name: "a", Cols: six[:1], Rel: 1}, {Name: "a0_b1_c2", Cols: six, Rel: api.MaxRels}, {Name: "z", Cols: six[5:], Rel: 50}} {
		put(t, n, l, 1, x, api.OK)
		got, ok := n.See(l, 1, x.Name)
		if !ok || got.Name != x.Name || got.Rel != x.Rel || !slices.Equal(got.Cols, x.Cols) {
			t.Errorf("%d: %v, %t", i, got, ok)
		}
		if got := n.All(l, 1); len(got) != i+1 || !slices.Equal(got[i].Cols, x.Cols) {
			t.Errorf("%d: %v", i, got)
		}
	}
}

// TestAllRise: by names as bytes, whenever they were put.
func TestAllRise(t *testing.T) {
	l, n := begun(1), New()
	for i, name := range []string{"ab", "b", "a", "a_", "a0", "aa"} {
		put(t, n, l, 1, tab(name, i+1), api.OK)
	}
	all(t, n, l, 1, seen{"a", 3}, seen{"a0", 5}, seen{"a_", 4}, seen{"aa", 6}, seen{"ab", 1}, seen{"b", 2})
	put(t, n, l, 1, tab("a_", 9), api.OK)
	drop(t, n, l, 1, "ab", api.OK)
	all(t, n, l, 1, seen{"a", 3}, seen{"a0", 5}, seen{"a_", 9}, seen{"aa", 6}, seen{"b", 2})
}

// TestVersions is one name that is put, put anew, dropped, and put again, each by
// another one, and what those see of it that begin in between.
func TestVersions(t *testing.T) {
	l, n := clog.New(), New()
	for step := range 6 {
		next(t, l) // it sees what was done ahead of it, and does nothing
		xid := next(t, l)
		if step == 2 || step == 4 {
			drop(t, n, l, xid, "a", api.OK)
		} else {
			put(t, n, l, xid, tab("a", step+10), api.OK)
		}
		l.Commit(xid)
	}
	for step, rel := range []int{0, 10, 11, 0, 13, 0} {
		unseen := []int{2, 4, 6, 8, 10, 12}[step:]
		asked(t, n, l, 2*step+1, "a", answer{rel: rel, err: api.ErrConflict, who: unseen[0], unseen: unseen})
	}
	asked(t, n, l, next(t, l), "a", answer{rel: 15})
	asked(t, n, l, 4, "a", answer{rel: 11, err: api.ErrConflict, who: 6, unseen: []int{6, 8, 10, 12}})
}

// TestMayOfSeveral: the least one that runs is told ahead of those that are
// committed, and the least of those else.
func TestMayOfSeveral(t *testing.T) {
	l, n := begun(1), New()
	put(t, n, l, 1, tab("a", 1), api.OK)
	reader, dropper := 2, 3
	next(t, l)
	asked(t, n, l, reader, "a", answer{err: api.ErrWaits, who: 1, unseen: []int{1}})
	l.Commit(1)
	asked(t, n, l, reader, "a", answer{err: api.ErrConflict, who: 1, unseen: []int{1}})
	next(t, l)
	drop(t, n, l, dropper, "a", api.OK)
	asked(t, n, l, reader, "a", answer{err: api.ErrWaits, who: 3, unseen: []int{1, 3}})
	l.Commit(dropper)
	asked(t, n, l, reader, "a", answer{err: api.ErrConflict, who: 1, unseen: []int{1, 3}})
	put(t, n, l, next(t, l), tab("a", 2), api.OK)
	asked(t, n, l, reader, "a", answer{err: api.ErrWaits, who: 4, unseen: []int{1, 3, 4}})
	put(t, n, l, reader, tab("a", 3), api.ErrWaits)
	drop(t, n, l, reader, "a", api.ErrWaits)
	l.Abort(4)
	asked(t, n, l, reader, "a", answer{err: api.ErrConflict, who: 1, unseen: []int{1, 3}})
	put(t, n, l, reader, tab("a", 3), api.ErrConflict)
	drop(t, n, l, reader, "a", api.ErrConflict)
	put(t, n, l, reader, tab("b", 3), api.OK)
}

// TestAnAbortedOneCountsForNothing: what it made is seen by nobody else, what it
// ended is there, and who comes later may end it again.
func TestAnAbortedOneCountsForNothing(t *testing.T) {
	l, n := begun(1), New()
	put(t, n, l, 1, tab("a", 1), api.OK)
	l.Commit(1)
	for _, lose := range []func(xid int){
		func(xid int) { put(t, n, l, xid, tab("a", 7), api.OK) },
		func(xid int) { drop(t, n, l, xid, "a", api.OK) },
		func(xid int) {
			drop(t, n, l, xid, "a", api.OK)
			put(t, n, l, xid, tab("a", 8), api.OK)
			put(t, n, l, xid, tab("a", 9), api.OK)
		},
	} {
		xid, beside := next(t, l), next(t, l)
		lose(xid)
		asked(t, n, l, beside, "a", answer{rel: 1, err: api.ErrWaits, who: xid, unseen: []int{xid}})
		l.Abort(xid)
		asked(t, n, l, beside, "a", answer{rel: 1})
		asked(t, n, l, xid, "a", answer{rel: 1})
		all(t, n, l, xid, seen{"a", 1})
	}
	xid := next(t, l)
	put(t, n, l, xid, tab("a", 2), api.OK)
	asked(t, n, l, xid, "a", answer{rel: 2})
	l.Commit(xid)
	asked(t, n, l, next(t, l), "a", answer{rel: 2})
}

// TestAnAbortedOneSeesItsOwn as it sees its own rows, and one of each name.
func TestAnAbortedOneSeesItsOwn(t *testing.T) {
	l, n := begun(2), New()
	put(t, n, l, 1, tab("a", 1), api.OK)
	put(t, n, l, 1, tab("b", 2), api.OK)
	put(t, n, l, 1, tab("b", 3), api.OK)
	l.Abort(1)
	all(t, n, l, 1, seen{"a", 1}, seen{"b", 2})
	all(t, n, l, 2)
	asked(t, n, l, 1, "a", answer{rel: 1})
	asked(t, n, l, 2, "a", answer{})
}

// TestOnesOwn: a transaction sees what it did last, and may do more.
func TestOnesOwn(t *testing.T) {
	l, n := begun(1), New()
	drop(t, n, l, 1, "a", api.ErrNone)
	for rel := 1; rel < 40; rel++ {
		put(t, n, l, 1, tab("a", rel), api.OK)
		asked(t, n, l, 1, "a", answer{rel: rel})
		all(t, n, l, 1, seen{"a", rel})
		if rel%3 == 0 {
			drop(t, n, l, 1, "a", api.OK)
			drop(t, n, l, 1, "a", api.ErrNone)
			asked(t, n, l, 1, "a", answer{})
			all(t, n, l, 1)
		}
	}
	asked(t, n, l, next(t, l), "a", answer{err: api.ErrWaits, who: 1, unseen: []int{1}})
}

// six are names for MaxTables tables, which 1 made and committed.
func six(t *testing.T) (*clog.Log, *Names) {
	t.Helper()
	l, n := begun(1), New()
	for i := range api.MaxTables {
		put(t, n, l, 1, tab("t"+string(rune('0'+i)), i+1), api.OK)
	}
	put(t, n, l, 1, tab("x", 1), api.ErrMany)
	l.Commit(1)
	return l, n
}

func TestMostNames(t *testing.T) {
	l, n := six(t)
	a := next(t, l)
	put(t, n, l, a, tab("x", 1), api.ErrMany)
	put(t, n, l, a, tab("t3", 9), api.OK) // it is there
	drop(t, n, l, a, "t3", api.OK)
	put(t, n, l, a, tab("x", 1), api.ErrMany)   // for others it is there yet
	put(t, n, l, a, tab("t3", 10), api.OK)      // this name is none of the others
	drop(t, n, l, a, "t3", api.OK)              // and once more
	b := next(t, l)                             // ahead of the commit
	put(t, n, l, b, tab("x", 1), api.ErrMany)   // who dropped runs
	put(t, n, l, b, tab("t3", 1), api.ErrWaits) // May's error comes first
	l.Commit(a)
	put(t, n, l, b, tab("x", 1), api.ErrMany)      // who dropped is not seen
	put(t, n, l, b, tab("t3", 1), api.ErrConflict) // May's error comes first
	c := next(t, l)
	put(t, n, l, c, tab("x", 1), api.OK)
	put(t, n, l, c, tab("y", 1), api.ErrMany)
	put(t, n, l, c, tab("t3", 1), api.ErrMany) // it is gone
	put(t, n, l, b, tab("y", 1), api.ErrMany)
	put(t, n, l, b, tab("t1", 9), api.OK) // it is there, though there may be six others
}

// TestNamesThatAreNone: what an aborted one made is none, what it dropped is one.
func TestNamesThatAreNone(t *testing.T) {
	l, n := six(t)
	a := next(t, l)
	drop(t, n, l, a, "t0", api.OK)
	l.Abort(a)
	b := next(t, l)
	put(t, n, l, b, tab("x", 1), api.ErrMany)
	drop(t, n, l, b, "t0", api.OK)
	l.Commit(b)
	c, d := next(t, l), next(t, l)
	put(t, n, l, c, tab("x", 1), api.OK)
	put(t, n, l, c, tab("x", 2), api.OK)
	put(t, n, l, d, tab("y", 1), api.ErrMany)
	l.Abort(c)
	put(t, n, l, d, tab("y", 1), api.OK)
}

// TestANameCountsOnce, however many versions it has.
func TestANameCountsOnce(t *testing.T) {
	l, n := begun(1), New()
	for i := range 5 * api.MaxTables {
		put(t, n, l, 1, tab("a", i+1), api.OK)
	}
	for i := range api.MaxTables - 1 {
		put(t, n, l, 1, tab("t"+string(rune('0'+i)), 1), api.OK)
	}
	put(t, n, l, 1, tab("x", 1), api.ErrMany)
}

// TestTwoAreNotOne: what is put in one is not in another.
func TestTwoAreNotOne(t *testing.T) {
	l, one, two := begun(1), New(), New()
	put(t, one, l, 1, tab("a", 1), api.OK)
	all(t, two, l, 1)
	put(t, two, l, 1, tab("a", 2), api.OK)
	all(t, one, l, 1, seen{"a", 1})
}

// whole are columns with room to spare.
func whole() []api.Column {
	cols := make([]api.Column, 2, 5)
	cols[0] = api.Column{Name: "a", Kind: api.Int}
	cols[1] = api.Column{Name: "b", Kind: api.Text, Default: api.Value{Kind: api.Text, S: "x"}}
	return cols
}

// spoil writes over columns, spare room too.
func spoil(cols []api.Column) {
	cols = cols[:cap(cols)]
	for i := range cols {
		cols[i] = api.Column{Name: "spoilt", Kind: 9, NotNull: true}
	}
}

func TestNewMemory(t *testing.T) {
	l, n := begun(1), New()
	cols := whole()
	for _, name := range []string{"a", "b"} {
		put(t, n, l, 1, api.Table{Name: name, Cols: cols, Rel: 1}, api.OK)
	}
	for _, c := range cols[2:cap(cols)] {
		if c != (api.Column{}) {
			t.Fatal("the spare room of what was handed in was changed")
		}
	}
	spoil(cols)
	for range 2 {
		x, _ := n.See(l, 1, "a")
		y, _ := n.See(l, 1, "a")
		lists := n.All(l, 1)
		for _, x := range append(lists, x, y) {
			if !slices.Equal(x.Cols, whole()) {
				t.Fatalf("the columns are %v", x.Cols)
			}
			spoil(x.Cols)
		}
		clear(lists[:cap(lists)])
	}
	other := next(t, l)
	for range 2 {
		unseen := n.Unseen(l, other, "a")
		if !slices.Equal(unseen, []int{1}) {
			t.Fatalf("Unseen: %v", unseen)
		}
		clear(unseen[:cap(unseen)])
	}
}
