package heap

import (
	"math"
	"slices"
	"strings"
	"testing"

	"livery/api"
	"livery/clog"
)

// ints is a row of whole numbers.
func ints(numbers ...int64) []api.Value {
	var out []api.Value
	for _, n := range numbers {
		out = append(out, api.Value{Kind: api.Int, N: n})
	}
	return out
}

// insert fails unless the version has that tid.
func insert(t *testing.T, r *Rel, xid int, row []api.Value, want int) {
	t.Helper()
	if tid, err := r.Insert(xid, row); tid != want || err != api.OK {
		t.Fatalf("Insert(%d): %d, %d, wanted %d", xid, tid, err, want)
	}
}

func end(t *testing.T, r *Rel, xid, tid int) {
	t.Helper()
	if err := r.Delete(xid, tid); err != api.OK {
		t.Fatalf("Delete(%d, %d): %d", xid, tid, err)
	}
}

// is fails unless the version is that one.
func is(t *testing.T, r *Rel, tid, xmin, xmax int, row []api.Value) {
	t.Helper()
	v, ok := r.Get(tid)
	if !ok || v.Xmin != xmin || v.Xmax != xmax || !slices.Equal(v.Row, row) {
		t.Fatalf("Get(%d): %v, %t, wanted %d, %d, %v", tid, v, ok, xmin, xmax, row)
	}
}

// none fails unless there is no version of that tid.
func none(t *testing.T, r *Rel, l *clog.Log, tid int) {
	t.Helper()
	if v, ok := r.Get(tid); ok || v.Xmin != 0 || v.Xmax != 0 || v.Row != nil {
		t.Fatalf("Get(%d): %v, %t", tid, v, ok)
	}
	if err := r.Delete(1, tid); err != api.ErrNone {
		t.Fatalf("Delete(1, %d): %d", tid, err)
	}
	for xid := range 9 {
		asked(t, r, l, xid, tid, answer{may: api.ErrNone})
	}
}

// all fails unless those are the tids.
func all(t *testing.T, r *Rel, want ...int) {
	t.Helper()
	if got := r.All(); !slices.Equal(got, want) {
		t.Fatalf("All: %v, wanted %v", got, want)
	}
}

// answer is what is told of a transaction and a version.
type answer struct {
	sees   bool
	may    api.Errno
	who    int
	unseen []int
}

func asked(t *testing.T, r *Rel, l *clog.Log, xid, tid int, want answer) {
	t.Helper()
	err, who := r.May(l, xid, tid)
	sees, unseen := r.Sees(l, xid, tid), r.Unseen(l, xid, tid)
	if sees != want.sees || err != want.may || who != want.who || !slices.Equal(unseen, want.unseen) {
		t.Fatalf("%d of version %d: sees %t, may %d because of %d, unseen %v; wanted %v", xid, tid, sees, err, who, unseen, want)
	}
	if slices.Contains(r.Visible(l, xid), tid) != sees {
		t.Fatalf("%d of version %d: sees %t, visible %v", xid, tid, sees, r.Visible(l, xid))
	}
}

func visible(t *testing.T, r *Rel, l *clog.Log, xid int, want ...int) {
	t.Helper()
	if got := r.Visible(l, xid); !slices.Equal(got, want) {
		t.Fatalf("Visible(%d): %v, wanted %v", xid, got, want)
	}
}

// vacuum fails unless just those go.
func vacuum(t *testing.T, r *Rel, l *clog.Log, want ...int) {
	t.Helper()
	if got := r.Vacuum(l); !slices.Equal(got, want) {
		t.Fatalf("Vacuum: %v, wanted %v", got, want)
	}
}

// begun is a log in which n transactions run.
func begun(n int) *clog.Log {
	l := clog.New()
	for range n {
		l.Begin(false)
	}
	return l
}

// notTids are numbers that no version has where there are fewer than 9 of them; of
// many one would be there if some of their bits were lost.
func notTids() []int {
	return []int{-1, -2, -3, 9, 10, api.MaxRows, 1 << 8, 1<<8 + 1, 1 << 16, 1<<16 + 1, 1 << 32, 1<<32 + 1, math.MaxInt, math.MaxInt - 1, math.MinInt, math.MinInt + 1}
}

func TestExamples(t *testing.T) {
	l, r := begun(2), New()
	insert(t, r, 1, ints(5), 0)
	if r.Sees(l, 2, 0) || !slices.Equal(r.Unseen(l, 2, 0), []int{1}) {
		t.Error(r.Sees(l, 2, 0), r.Unseen(l, 2, 0))
	}
}

func TestNew(t *testing.T) {
	l, r := begun(3), New()
	all(t, r)
	visible(t, r, l, 1)
	vacuum(t, r, l)
	all(t, r.Copy(l))
	for _, tid := range append(notTids(), 0, 1, 2) {
		none(t, r, l, tid)
	}
	insert(t, r, 1, nil, 0)
	if x := New(); x == r || len(x.All()) != 0 {
		t.Error("two relations are one")
	}
}

func TestInsert(t *testing.T) {
	r := New()
	rows := [][]api.Value{
		ints(5), nil, {}, ints(5), // the same row twice
		{{Kind: api.Null}, {Kind: api.Bool, N: 1}, {Kind: api.Float, F: math.Inf(-1)}, {Kind: api.Text, S: "ab\x00"}},
		{{Kind: 77, N: -3, F: 2.5, S: "x"}, {Kind: -1}}, // nobody asks whether a value is good,
		make([]api.Value, 1000), // nor how many there are
		{{Kind: api.Text, S: strings.Repeat("y", 3000)}},
	}
	xids := [8]int{1, 1, 2, 7, api.MaxTx, api.MaxTx + 1, 1<<32 + 1, math.MaxInt}
	for i, row := range rows {
		insert(t, r, xids[i], row, i)
	}
	for i, row := range rows {
		is(t, r, i, xids[i], 0, row)
	}
	all(t, r, 0, 1, 2, 3, 4, 5, 6, 7)
}

func TestInsertOfWrongNumbers(t *testing.T) {
	r := New()
	insert(t, r, 1, ints(1), 0)
	for _, xid := range []int{0, -1, -2, -api.MaxTx, -1 << 32, 1 - 1<<32, math.MinInt, math.MinInt + 1} {
		if tid, err := r.Insert(xid, ints(2)); tid != 0 || err != api.ErrArg {
			t.Errorf("Insert(%d): %d, %d", xid, tid, err)
		}
		if err := r.Delete(xid, 0); err != api.ErrArg {
			t.Errorf("Delete(%d, 0): %d", xid, err)
		}
		if err := r.Delete(xid, 5); err != api.ErrArg { // ahead of ErrNone
			t.Errorf("Delete(%d, 5): %d", xid, err)
		}
	}
	all(t, r, 0)
	is(t, r, 0, 1, 0, ints(1))
	insert(t, r, 1, ints(2), 1) // no tid was lost
}

// fill puts versions of xid into r till it is full; from is the first one's tid.
func fill(t *testing.T, r *Rel, xid, from int) {
	t.Helper()
	for n := range api.MaxRows - len(r.All()) {
		insert(t, r, xid, nil, from+n)
	}
}

func full(t *testing.T, r *Rel) {
	t.Helper()
	if tid, err := r.Insert(1, nil); tid != 0 || err != api.ErrFull {
		t.Fatalf("Insert(1): %d, %d", tid, err)
	}
	if tid, err := r.Insert(0, nil); tid != 0 || err != api.ErrArg { // ahead of ErrFull
		t.Fatalf("Insert(0): %d, %d", tid, err)
	}
}

func TestFull(t *testing.T) {
	l, r := begun(3), New()
	l.Abort(2)
	fill(t, r, 1, 0)
	full(t, r)
	full(t, r)
	for tid := range api.MaxRows { // who ends makes no room
		end(t, r, 1, tid)
	}
	vacuum(t, r, l)
	full(t, r)
	end(t, r, 2, 0)
	l.Commit(1)
	vacuum(t, r, l) // 3 sees nothing of 1, but the horizon is ahead of it
	full(t, r)
	l.Abort(3)
	if got := r.Vacuum(l); len(got) != api.MaxRows-1 {
		t.Fatal(got)
	}
	all(t, r, 0)
	fill(t, r, 3, api.MaxRows)
	full(t, r)
	c := r.Copy(l)
	all(t, c, 0)
	insert(t, c, 1, nil, 1)
	full(t, r)
}

func TestTidsEnd(t *testing.T) {
	l, r := begun(2), New()
	l.Abort(2)
	insert(t, r, 1, ints(4), 0)
	next := 1
	for next < 65536 {
		for range min(api.MaxRows-1, 65536-next) {
			insert(t, r, 2, ints(int64(next)), next)
			next++
		}
		is(t, r, next-1, 2, 0, ints(int64(next-1)))
		if next == 65536 {
			full(t, r)
		}
		r.Vacuum(l)
		all(t, r, 0)
	}
	full(t, r)
	end(t, r, 1, 0)
	l.Commit(1)
	c := r.Copy(l)
	all(t, c)
	insert(t, c, 1, nil, 0)
	vacuum(t, r, l, 0)
	all(t, r)
	full(t, r) // without any version, too
	insert(t, r.Copy(l), 1, nil, 0)
}

func TestTheLastTid(t *testing.T) {
	l, r := begun(2), New()
	l.Abort(2)
	for r.next < 65536-api.MaxRows {
		insert(t, r, 2, nil, r.next)
		r.Vacuum(l)
	}
	fill(t, r, 1, 65536-api.MaxRows)
	full(t, r)
	is(t, r, 65535, 1, 0, nil)
	end(t, r, 1, 65535)
	is(t, r, 65535, 1, 1, nil)
	none(t, r, l, 65536)
	none(t, r, l, 65535-api.MaxRows)
	c := r.Copy(l)
	is(t, c, api.MaxRows-1, 1, 1, nil)
	none(t, c, l, api.MaxRows)
	full(t, c)
}

func TestDelete(t *testing.T) {
	l, r := begun(3), New()
	for tid := range 3 {
		insert(t, r, 1, ints(int64(tid)), tid)
	}
	end(t, r, 2, 1)
	is(t, r, 0, 1, 0, ints(0))
	is(t, r, 1, 1, 2, ints(1))
	is(t, r, 2, 1, 0, ints(2))
	end(t, r, 3, 1) // nobody asks whether it may
	is(t, r, 1, 1, 3, ints(1))
	end(t, r, 3, 1)
	end(t, r, 1, 0)
	is(t, r, 0, 1, 1, ints(0))
	end(t, r, math.MaxInt, 2)
	is(t, r, 2, 1, math.MaxInt, ints(2))
	for _, tid := range append(notTids(), 3) {
		none(t, r, l, tid)
	}
	all(t, r, 0, 1, 2)
	is(t, r, 0, 1, 1, ints(0))
}

func TestGoneAreNone(t *testing.T) {
	l, r := begun(3), New()
	for tid := range 8 {
		insert(t, r, 1+tid%2, ints(int64(tid)), tid)
	}
	l.Abort(2)
	vacuum(t, r, l, 1, 3, 5, 7)
	all(t, r, 0, 2, 4, 6)
	for tid := 1; tid < 9; tid += 2 {
		none(t, r, l, tid)
	}
	end(t, r, 3, 4)
	is(t, r, 4, 1, 3, ints(4))
	is(t, r, 6, 1, 0, ints(6))
	insert(t, r, 3, ints(9), 8) // no tid is given twice
	all(t, r, 0, 2, 4, 6, 8)
	vacuum(t, r, l)
	all(t, r, 0, 2, 4, 6, 8)
}

// world is a log of each state, as 4 has it: 1 is committed and seen, 2 aborted, 3
// runs, 5 is committed behind its snapshot, 6 and 7 are as 3 and 4 are.
func world() *clog.Log {
	l := begun(3)
	l.Commit(1)
	l.Begin(false)
	l.Abort(2)
	l.Begin(true)
	l.Commit(5)
	l.Begin(false)
	l.Begin(true)
	return l
}

func TestSeesMayUnseen(t *testing.T) {
	const nobody = 99 // a number that no transaction has
	l, r := world(), New()
	cases := []struct {
		xmin, xmax int
		answer     // of 4
	}{
		{1, 0, answer{true, api.OK, 0, nil}},
		{1, 1, answer{false, api.ErrNone, 0, nil}},
		{1, 2, answer{true, api.OK, 0, nil}},
		{1, 3, answer{true, api.ErrWaits, 3, []int{3}}},
		{1, 4, answer{false, api.ErrNone, 0, nil}},
		{1, 5, answer{true, api.ErrConflict, 5, []int{5}}},
		{1, nobody, answer{true, api.OK, 0, []int{nobody}}},
		{2, 0, answer{false, api.ErrNone, 0, nil}},
		{2, 1, answer{false, api.ErrNone, 0, nil}},
		{2, 2, answer{false, api.ErrNone, 0, nil}},
		{2, 3, answer{false, api.ErrNone, 0, nil}},
		{2, 4, answer{false, api.ErrNone, 0, nil}},
		{2, 5, answer{false, api.ErrNone, 0, nil}},
		{3, 0, answer{false, api.ErrNone, 0, []int{3}}},
		{3, 1, answer{false, api.ErrNone, 0, []int{3}}},
		{3, 2, answer{false, api.ErrNone, 0, []int{3}}},
		{3, 3, answer{false, api.ErrNone, 0, []int{3}}},
		{3, 4, answer{false, api.ErrNone, 0, []int{3}}},
		{3, 5, answer{false, api.ErrNone, 0, []int{3}}}, // not 5 beside it
		{4, 0, answer{true, api.OK, 0, nil}},
		{4, 1, answer{false, api.ErrNone, 0, nil}},
		{4, 2, answer{true, api.OK, 0, nil}},
		{4, 3, answer{true, api.ErrWaits, 3, []int{3}}},
		{4, 4, answer{false, api.ErrNone, 0, nil}},
		{4, 5, answer{true, api.ErrConflict, 5, []int{5}}},
		{5, 0, answer{false, api.ErrNone, 0, []int{5}}},
		{5, 3, answer{false, api.ErrNone, 0, []int{5}}},
		{5, 4, answer{false, api.ErrNone, 0, []int{5}}},
		{5, 5, answer{false, api.ErrNone, 0, []int{5}}},
		{nobody, 0, answer{false, api.ErrNone, 0, []int{nobody}}},
		{nobody, 4, answer{false, api.ErrNone, 0, []int{nobody}}},
	}
	var seen []int
	for tid, c := range cases {
		insert(t, r, c.xmin, ints(int64(tid)), tid)
		if c.xmax != 0 {
			end(t, r, c.xmax, tid)
		}
		if c.sees {
			seen = append(seen, tid)
		}
		asked(t, r, l, 4, tid, c.answer)
	}
	visible(t, r, l, 4, seen...)
	for _, tid := range append(notTids(), len(cases))[:3] {
		none(t, r, l, tid)
	}
}

// TestOfWhoIsAborted: it sees its own doings yet, but an end of its own counts as
// none.
func TestOfWhoIsAborted(t *testing.T) {
	l, r := world(), New()
	insert(t, r, 2, nil, 0)
	insert(t, r, 2, nil, 1)
	end(t, r, 2, 1)
	insert(t, r, 2, nil, 2)
	end(t, r, 1, 2) // committed behind the snapshot of 2
	insert(t, r, 2, nil, 3)
	end(t, r, 3, 3)
	insert(t, r, 1, nil, 4)
	asked(t, r, l, 2, 0, answer{true, api.OK, 0, nil})
	asked(t, r, l, 2, 1, answer{true, api.OK, 0, nil})
	asked(t, r, l, 2, 2, answer{true, api.ErrConflict, 1, []int{1}})
	asked(t, r, l, 2, 3, answer{true, api.ErrWaits, 3, []int{3}})
	asked(t, r, l, 2, 4, answer{false, api.ErrNone, 0, []int{1}})
	visible(t, r, l, 2, 0, 1, 2, 3)
	vacuum(t, r, l, 0, 1, 2, 3)
}

// TestOfWhoIsCommitted: it is still told what it saw when it ended.
func TestOfWhoIsCommitted(t *testing.T) {
	l, r := world(), New()
	insert(t, r, 1, nil, 0)
	end(t, r, 5, 0)
	insert(t, r, 5, nil, 1)
	insert(t, r, 1, nil, 2)
	insert(t, r, 4, nil, 3)
	asked(t, r, l, 5, 0, answer{false, api.ErrNone, 0, nil})
	asked(t, r, l, 5, 1, answer{true, api.OK, 0, nil})
	asked(t, r, l, 1, 0, answer{true, api.ErrConflict, 5, []int{5}})
	asked(t, r, l, 1, 1, answer{false, api.ErrNone, 0, []int{5}})
	l.Commit(4)
	asked(t, r, l, 5, 3, answer{false, api.ErrNone, 0, []int{4}})
	asked(t, r, l, 7, 0, answer{false, api.ErrNone, 0, nil})
	visible(t, r, l, 5, 1, 2)
	visible(t, r, l, 7, 1, 2)
	visible(t, r, l, 3)
}

func TestOfNobody(t *testing.T) {
	l, r := world(), New()
	insert(t, r, 1, nil, 0)
	insert(t, r, 2, nil, 1)
	insert(t, r, 3, nil, 2)
	insert(t, r, 1, nil, 3)
	end(t, r, 3, 3)
	for _, xid := range []int{0, -1, 8, 9, api.MaxTx + 1, 1<<8 + 4, 1<<32 + 1, 1<<32 + 4, math.MaxInt, math.MinInt, math.MinInt + 4} {
		asked(t, r, l, xid, 0, answer{false, api.ErrNone, 0, []int{1}})
		asked(t, r, l, xid, 1, answer{false, api.ErrNone, 0, nil})
		asked(t, r, l, xid, 2, answer{false, api.ErrNone, 0, []int{3}})
		asked(t, r, l, xid, 3, answer{false, api.ErrNone, 0, []int{1}})
		visible(t, r, l, xid)
	}
}

func TestVacuum(t *testing.T) {
	l := begun(6)
	l.Commit(1)    // csn 1
	l.Commit(2)    // csn 2
	l.Begin(false) // 7, from 2
	l.Commit(3)    // csn 3
	for _, xid := range []int{4, 5, 6} {
		l.Abort(xid)
	}
	r := New() // the horizon is 2
	for tid, x := range [][2]int{{1, 0}, {1, 1}, {1, 2}, {1, 3}, {1, 4}, {1, 7}, {4, 0}, {4, 3}, {4, 7}, {3, 0}, {3, 2}, {7, 0}, {7, 3}, {7, 2}, {7, 7}, {1, 99}, {99, 0}, {99, 2}} {
		insert(t, r, x[0], ints(int64(tid)), tid)
		if x[1] != 0 {
			end(t, r, x[1], tid)
		}
	}
	vacuum(t, r, l, 1, 2, 6, 7, 8, 10, 13, 17)
	all(t, r, 0, 3, 4, 5, 9, 11, 12, 14, 15, 16)
	vacuum(t, r, l)
	is(t, r, 3, 1, 3, ints(3))
	is(t, r, 4, 1, 4, ints(4)) // an end that was aborted stays told
	l.Abort(7)                 // the horizon is the clock
	vacuum(t, r, l, 3, 11, 12, 14)
	all(t, r, 0, 4, 5, 9, 15, 16)
	insert(t, r, 1, nil, 18)
}

func TestVacuumByTheHorizon(t *testing.T) {
	l, r := clog.New(), New()
	for n := range 10 { // each has a snapshot of its own, and the next number's end behind it
		l.Begin(false)
		l.Begin(false)
		insert(t, r, 2*n+1, nil, n)
		end(t, r, 2*n+2, n)
		l.Commit(2*n + 2)
	}
	vacuum(t, r, l)
	for n := range 9 {
		l.Commit(2*n + 1) // the horizon is n + 1, the csn of n's end too
		vacuum(t, r, l, n)
	}
	l.Abort(19)
	vacuum(t, r, l, 9)
	all(t, r)
}

func TestCopy(t *testing.T) {
	l := begun(5)
	l.Commit(1)
	l.Abort(2)
	l.Begin(false) // 6, from 1: the horizon is 0 by 3
	r := New()
	for tid, x := range [][2]int{{2, 0}, {1, 0}, {1, 3}, {2, 1}, {1, 2}, {6, 6}, {4, 0}, {1, 1}, {1, 99}} {
		insert(t, r, x[0], ints(int64(tid), 7), tid)
		if x[1] != 0 {
			end(t, r, x[1], tid)
		}
	}
	c := r.Copy(l)
	all(t, c, 0, 1, 2, 3, 4, 5, 6)
	for tid, x := range [][3]int{{1, 0, 1}, {1, 3, 2}, {1, 2, 4}, {6, 6, 5}, {4, 0, 6}, {1, 1, 7}, {1, 99, 8}} {
		is(t, c, tid, x[0], x[1], ints(int64(x[2]), 7))
	}
	all(t, r, 0, 1, 2, 3, 4, 5, 6, 7, 8)
	insert(t, c, 6, nil, 7)
	for _, xid := range []int{3, 4, 5} {
		l.Abort(xid)
	}
	d := c.Copy(l) // without 4's, and what 1 ended; an end that was aborted is told yet
	all(t, d, 0, 1, 2, 3, 4, 5)
	for tid, x := range [][2]int{{1, 0}, {1, 3}, {1, 2}, {6, 6}, {1, 99}, {6, 0}} {
		v, _ := d.Get(tid)
		if v.Xmin != x[0] || v.Xmax != x[1] {
			t.Errorf("%d: %v", tid, v)
		}
	}
}

func TestCopiesAreApart(t *testing.T) {
	l, r := begun(3), New()
	l.Abort(2)
	insert(t, r, 2, ints(0), 0)
	insert(t, r, 1, ints(1), 1)
	insert(t, r, 1, ints(2), 2)
	c := r.Copy(l)
	end(t, r, 3, 1)
	is(t, c, 0, 1, 0, ints(1))
	end(t, c, 3, 1)
	is(t, r, 2, 1, 0, ints(2))
	insert(t, r, 3, ints(3), 3)
	insert(t, c, 3, ints(4), 2)
	insert(t, c, 3, ints(5), 3)
	is(t, r, 3, 3, 0, ints(3))
	is(t, c, 2, 3, 0, ints(4))
	vacuum(t, r, l, 0)
	all(t, r, 1, 2, 3)
	all(t, c, 0, 1, 2, 3)
	is(t, c, 1, 1, 3, ints(2))
	v, _ := r.Get(2)
	v.Row[0].N = 99
	is(t, c, 1, 1, 3, ints(2))
	w, _ := c.Get(1)
	w.Row[0].N = 98
	is(t, r, 2, 1, 0, ints(2))
	e := r.Copy(l) // nothing of what stays is told twice
	end(t, e, 1, 0)
	is(t, r, 1, 1, 3, ints(1))
}

// spoil changes all of a list, its spare room included.
func spoil[T any](l []T, by T) {
	l = l[:cap(l)]
	for i := range l {
		l[i] = by
	}
}

func TestRowsAreKeptAlone(t *testing.T) {
	r := New()
	room := slices.Repeat([]api.Value{{Kind: api.Text, S: "far"}}, 6)
	row := room[1:3]
	row[0].S, row[1].S = "a", "b"
	before := slices.Clone(room)
	insert(t, r, 1, row, 0)
	insert(t, r, 1, row, 1)
	end(t, r, 1, 0)
	if !slices.Equal(room, before) {
		t.Error("what was handed in is changed")
	}
	want := slices.Clone(row)
	spoil(room, api.Value{Kind: 9})
	is(t, r, 0, 1, 1, want)
	is(t, r, 1, 1, 0, want)
	first, _ := r.Get(0)
	second, _ := r.Get(0)
	other, _ := r.Get(1)
	spoil(first.Row, api.Value{Kind: 8})
	if !slices.Equal(second.Row, want) || !slices.Equal(other.Row, want) {
		t.Error("two answers share memory")
	}
	is(t, r, 0, 1, 1, want)
	is(t, r, 1, 1, 0, want)
	insert(t, r, 1, second.Row, 2)
	spoil(second.Row, api.Value{Kind: 7})
	is(t, r, 2, 1, 0, want)
	is(t, r, 0, 1, 1, want)
}

func TestListsAreTheCallers(t *testing.T) {
	l, r := begun(4), New()
	for tid := range 12 {
		insert(t, r, 1+tid%2, ints(int64(tid)), tid)
	}
	for tid := range 5 {
		end(t, r, 3, 2*tid)
	}
	l.Commit(1)
	l.Begin(false) // 5
	lists := func() [][]int {
		return [][]int{r.All(), r.All(), r.Visible(l, 5), r.Visible(l, 2), r.Unseen(l, 5, 0), r.Unseen(l, 5, 1), r.Unseen(l, 5, 0)}
	}
	want := lists()
	for i := range want {
		got := lists()
		spoil(got[i], -7)
		for j := range got {
			if j != i && !slices.Equal(got[j], want[j]) {
				t.Errorf("list %d is changed by list %d", j, i)
			}
		}
	}
	l.Abort(2)
	gone := r.Vacuum(l)
	spoil(gone, -7)
	all(t, r, 0, 2, 4, 6, 8, 10)
	is(t, r, 4, 1, 3, ints(4))
}

func TestNil(t *testing.T) {
	var r *Rel
	for _, l := range []*clog.Log{nil, begun(3)} {
		for _, n := range append(notTids(), 0, 1, 2, 3) {
			if tid, err := r.Insert(n, ints(1)); tid != 0 || err != api.ErrArg {
				t.Errorf("Insert(%d): %d, %d", n, tid, err)
			}
			if err := r.Delete(n, 0); err != api.ErrArg {
				t.Errorf("Delete(%d, 0): %d", n, err)
			}
			if err := r.Delete(1, n); err != api.ErrArg {
				t.Errorf("Delete(1, %d): %d", n, err)
			}
			if v, ok := r.Get(n); ok || v.Xmin != 0 || v.Xmax != 0 || v.Row != nil {
				t.Errorf("Get(%d): %v", n, v)
			}
			asked(t, r, l, n, 0, answer{may: api.ErrArg})
			asked(t, r, l, 1, n, answer{may: api.ErrArg})
		}
		all(t, r)
		vacuum(t, r, l)
		if r.Copy(l) != nil {
			t.Error("Copy of nil")
		}
	}
}

// TestNilLog: of such a log nobody is a transaction.
func TestNilLog(t *testing.T) {
	r := New()
	insert(t, r, 1, ints(1), 0)
	insert(t, r, 2, ints(2), 1)
	end(t, r, 1, 1)
	for xid := range 4 {
		asked(t, r, nil, xid, 0, answer{false, api.ErrNone, 0, []int{1}})
		asked(t, r, nil, xid, 1, answer{false, api.ErrNone, 0, []int{2}})
		asked(t, r, nil, xid, 2, answer{may: api.ErrNone})
		visible(t, r, nil, xid)
	}
	vacuum(t, r, nil)
	c := r.Copy(nil)
	all(t, c, 0, 1)
	is(t, c, 1, 2, 1, ints(2))
}
