package clog

import (
	"math"
	"slices"
	"testing"

	"livery/api"
)

// begin fails unless the transaction has that number.
func begin(t *testing.T, l *Log, reads bool, want int) {
	t.Helper()
	if xid, err := l.Begin(reads); xid != want || err != api.OK {
		t.Fatalf("Begin(%t): %d, %d, wanted %d", reads, xid, err, want)
	}
}

// commit fails unless the transaction has that csn.
func commit(t *testing.T, l *Log, xid, want int) {
	t.Helper()
	if csn, err := l.Commit(xid); csn != want || err != api.OK {
		t.Fatalf("Commit(%d): %d, %d, wanted %d", xid, csn, err, want)
	}
}

func abort(t *testing.T, l *Log, xid int) {
	t.Helper()
	if err := l.Abort(xid); err != api.OK {
		t.Fatalf("Abort(%d): %d", xid, err)
	}
}

// refused fails unless the transaction can neither be committed nor aborted, with
// that error.
func refused(t *testing.T, l *Log, xid int, want api.Errno) {
	t.Helper()
	if csn, err := l.Commit(xid); csn != 0 || err != want {
		t.Fatalf("Commit(%d): %d, %d, wanted %d", xid, csn, err, want)
	}
	if err := l.Abort(xid); err != want {
		t.Fatalf("Abort(%d): %d, wanted %d", xid, err, want)
	}
}

// is fails unless the transaction has that state, csn and snapshot.
func is(t *testing.T, l *Log, xid, state, csn, snapshot int, reads bool) {
	t.Helper()
	if l.State(xid) != state || l.Csn(xid) != csn || l.Snapshot(xid) != snapshot || l.Reads(xid) != reads {
		t.Fatalf("%d: state %d, csn %d, snapshot %d, reads %t; wanted %d, %d, %d, %t", xid, l.State(xid), l.Csn(xid), l.Snapshot(xid), l.Reads(xid), state, csn, snapshot, reads)
	}
}

// times fails unless the log has that clock and that horizon, and just those run.
func times(t *testing.T, l *Log, clock, horizon int, running ...int) {
	t.Helper()
	if l.Clock() != clock || l.Horizon() != horizon || !slices.Equal(l.Running(), running) {
		t.Fatalf("clock %d, horizon %d, running %v; wanted %d, %d, %v", l.Clock(), l.Horizon(), l.Running(), clock, horizon, running)
	}
}

// nobodys are numbers that are no transaction's where fewer than 9 have begun; of
// many one would be left if some of their bits were lost.
func nobodys() []int {
	out := []int{0, 9, 10, 63, 64, 65, api.MaxTx, api.MaxTx + 1, api.MaxTx + 2, 1 << 8, 1<<8 + 1, 1<<16 + 1, 1<<32 + 1, 1<<32 + 2, 1<<63 - 1<<32 + 1, math.MaxInt, math.MaxInt - 1, math.MinInt, math.MinInt + 1, math.MinInt + 2}
	for n := 1; n <= api.MaxTx+2; n++ {
		out = append(out, -n)
	}
	return out
}

func TestExamples(t *testing.T) {
	l := New()
	begin(t, l, false, 1)
	begin(t, l, false, 2)
	commit(t, l, 1, 1)
	if l.Sees(2, 1) {
		t.Error("2 sees what was committed behind its snapshot")
	}
}

func TestNew(t *testing.T) {
	l := New()
	times(t, l, 0, 0)
	for _, xid := range append(nobodys(), 1, 2, 3) {
		is(t, l, xid, 0, 0, 0, false)
		refused(t, l, xid, api.ErrState)
		if l.Sees(xid, xid) || l.Sees(xid, 1) || l.Sees(1, xid) || l.Beside(xid, xid) || l.Beside(xid, 1) || l.Beside(1, xid) {
			t.Errorf("%d: there is none", xid)
		}
	}
	times(t, l, 0, 0)
	begin(t, l, true, 1)
	if x := New(); x == l || x.State(1) != 0 || x.Clock() != 0 {
		t.Error("two logs are one")
	}
}

func TestBegin(t *testing.T) {
	l := New()
	for i, reads := range []bool{false, true, true, false} {
		begin(t, l, reads, i+1)
		is(t, l, i+1, api.Running, 0, 0, reads)
	}
	times(t, l, 0, 0, 1, 2, 3, 4)
	commit(t, l, 3, 1)
	begin(t, l, true, 5)
	is(t, l, 5, api.Running, 0, 1, true)
	abort(t, l, 5) // who is aborted does not move the clock
	begin(t, l, false, 6)
	is(t, l, 6, api.Running, 0, 1, false)
	commit(t, l, 6, 2)
	commit(t, l, 1, 3)
	begin(t, l, true, 7)
	is(t, l, 7, api.Running, 0, 3, true)
	times(t, l, 3, 0, 2, 4, 7)
}

func TestCommit(t *testing.T) {
	l := New()
	for xid := 1; xid <= 4; xid++ {
		begin(t, l, xid == 2 || xid == 4, xid)
	}
	commit(t, l, 4, 1) // in any order, and whoever only reads counts too
	commit(t, l, 1, 2)
	commit(t, l, 2, 3)
	times(t, l, 3, 0, 3)
	is(t, l, 1, api.Committed, 2, 0, false)
	is(t, l, 2, api.Committed, 3, 0, true)
	is(t, l, 3, api.Running, 0, 0, false)
	is(t, l, 4, api.Committed, 1, 0, true)
	refused(t, l, 1, api.ErrState)
	refused(t, l, 4, api.ErrState)
	times(t, l, 3, 0, 3)
	is(t, l, 1, api.Committed, 2, 0, false)
	is(t, l, 4, api.Committed, 1, 0, true)
	commit(t, l, 3, 4)
	is(t, l, 3, api.Committed, 4, 0, false)
	times(t, l, 4, 4)
}

func TestAbort(t *testing.T) {
	l := New()
	begin(t, l, false, 1)
	begin(t, l, true, 2)
	begin(t, l, false, 3)
	abort(t, l, 2)
	is(t, l, 2, api.Aborted, 0, 0, true)
	times(t, l, 0, 0, 1, 3)
	refused(t, l, 2, api.ErrState)
	is(t, l, 2, api.Aborted, 0, 0, true)
	commit(t, l, 3, 1)
	abort(t, l, 1)
	is(t, l, 1, api.Aborted, 0, 0, false)
	times(t, l, 1, 1)
	for xid := 1; xid <= 3; xid++ {
		refused(t, l, xid, api.ErrState)
	}
	begin(t, l, false, 4)
	abort(t, l, 4)
	is(t, l, 4, api.Aborted, 0, 1, false)
	times(t, l, 1, 1)
}

func TestNobody(t *testing.T) {
	l := New()
	for xid := 1; xid <= 8; xid++ {
		begin(t, l, xid%2 == 0, xid)
	}
	for xid := 1; xid <= 4; xid++ {
		commit(t, l, xid, xid)
	}
	abort(t, l, 5)
	for _, xid := range nobodys() {
		is(t, l, xid, 0, 0, 0, false)
		refused(t, l, xid, api.ErrState)
		for other := range 9 {
			if l.Sees(xid, other) || l.Sees(other, xid) || l.Beside(xid, other) || l.Beside(other, xid) {
				t.Errorf("%d and %d: there is no %d", xid, other, xid)
			}
		}
		for _, other := range nobodys() {
			if l.Sees(xid, other) || l.Beside(xid, other) {
				t.Errorf("%d and %d: there are none", xid, other)
			}
		}
	}
	times(t, l, 4, 0, 6, 7, 8)
	begin(t, l, false, 9)
	is(t, l, 9, api.Running, 0, 4, false)
}

// many is a log of as many transactions as there may be; each third one is
// committed at once, each third one aborted.
func many(t *testing.T) *Log {
	t.Helper()
	l := New()
	csn := 0
	for xid := 1; xid <= api.MaxTx; xid++ {
		begin(t, l, xid%2 == 0, xid)
		switch xid % 3 {
		case 1:
			csn++
			commit(t, l, xid, csn)
		case 2:
			abort(t, l, xid)
		}
	}
	return l
}

func full(t *testing.T, l *Log) {
	t.Helper()
	for _, reads := range []bool{false, true} {
		if xid, err := l.Begin(reads); xid != 0 || err != api.ErrFull {
			t.Fatalf("Begin(%t): %d, %d", reads, xid, err)
		}
	}
}

func TestFull(t *testing.T) {
	l := many(t)
	const clock = (api.MaxTx + 2) / 3
	running := l.Running()
	if len(running) != api.MaxTx/3 || running[0] != 3 || running[len(running)-1] != api.MaxTx/3*3 {
		t.Fatal(running)
	}
	full(t, l)
	times(t, l, clock, 1, running...)
	is(t, l, api.MaxTx+1, 0, 0, 0, false)
	refused(t, l, api.MaxTx+1, api.ErrState)
	for i, xid := range running { // who ends makes no room
		if i%2 == 0 {
			abort(t, l, xid)
		} else {
			commit(t, l, xid, clock+(i+1)/2)
		}
		full(t, l)
	}
	times(t, l, clock+len(running)/2, clock+len(running)/2)
	is(t, l, 1, api.Committed, 1, 0, false)
	is(t, l, api.MaxTx, api.Aborted, 0, clock, true)
	is(t, l, api.MaxTx-1, api.Committed, clock, clock-1, false)
}

func TestAllAtOnce(t *testing.T) {
	l := New()
	var all []int
	for xid := 1; xid <= api.MaxTx; xid++ {
		begin(t, l, false, xid)
		all = append(all, xid)
		times(t, l, 0, 0, all...)
	}
	full(t, l)
	for xid := api.MaxTx; xid >= 1; xid-- { // the last one first
		commit(t, l, xid, api.MaxTx+1-xid)
		is(t, l, xid, api.Committed, api.MaxTx+1-xid, 0, false)
	}
	times(t, l, api.MaxTx, api.MaxTx)
	for a := 1; a <= api.MaxTx; a++ {
		for b := 1; b <= api.MaxTx; b++ {
			if l.Sees(a, b) != (a == b) || l.Beside(a, b) != (a != b) {
				t.Fatalf("%d, %d: sees %t, beside %t", a, b, l.Sees(a, b), l.Beside(a, b))
			}
		}
	}
}

func TestSees(t *testing.T) {
	l := New()
	begin(t, l, false, 1)
	begin(t, l, false, 2)
	begin(t, l, true, 3)
	commit(t, l, 1, 1)
	begin(t, l, true, 4)
	commit(t, l, 2, 2)
	begin(t, l, false, 5)
	abort(t, l, 3)
	begin(t, l, false, 6)
	commit(t, l, 6, 3)
	// 1: 0 to 1; 2: 0 to 2; 3: 0, aborted; 4: from 1; 5: from 2; 6: 2 to 3
	sees := [7][]int{{}, {1}, {2}, {3}, {1, 4}, {1, 2, 5}, {1, 2, 6}}
	beside := [7][]int{{}, {2}, {1, 4}, {}, {2, 5, 6}, {4, 6}, {4, 5}}
	for a := range 7 {
		for b := range 7 {
			if l.Sees(a, b) != slices.Contains(sees[a], b) || l.Beside(a, b) != slices.Contains(beside[a], b) {
				t.Errorf("%d, %d: sees %t, beside %t", a, b, l.Sees(a, b), l.Beside(a, b))
			}
		}
	}
}

func TestOneAloneAtAClockOf0(t *testing.T) {
	l := New()
	begin(t, l, false, 1)
	if !l.Sees(1, 1) || l.Sees(1, 0) || l.Sees(1, 2) || l.Sees(0, 1) || l.Beside(1, 1) || l.Beside(1, 0) || l.Beside(0, 1) {
		t.Error("one that runs")
	}
	abort(t, l, 1)
	if !l.Sees(1, 1) || l.Sees(1, 0) || l.Beside(1, 1) || l.Beside(1, 0) {
		t.Error("one that is aborted")
	}
	times(t, l, 0, 0)
	begin(t, l, false, 2)
	if l.Sees(2, 1) || l.Sees(1, 2) || l.Beside(1, 2) || l.Beside(2, 1) {
		t.Error("beside one that is aborted")
	}
	commit(t, l, 2, 1)
	if !l.Sees(2, 2) || l.Sees(1, 2) || l.Beside(1, 2) || l.Beside(2, 2) {
		t.Error("one that is committed")
	}
}

func TestHorizon(t *testing.T) {
	l := New()
	for xid := 1; xid <= 5; xid++ { // each one has a snapshot of its own
		begin(t, l, false, 2*xid-1)
		begin(t, l, false, 2*xid)
		commit(t, l, 2*xid, xid)
	}
	times(t, l, 5, 0, 1, 3, 5, 7, 9)
	abort(t, l, 5) // not the eldest
	times(t, l, 5, 0, 1, 3, 7, 9)
	commit(t, l, 1, 6)
	times(t, l, 6, 1, 3, 7, 9)
	abort(t, l, 3)
	times(t, l, 6, 3, 7, 9)
	commit(t, l, 9, 7)
	times(t, l, 7, 3, 7)
	abort(t, l, 7)
	times(t, l, 7, 7)
	begin(t, l, true, 11)
	begin(t, l, false, 12)
	commit(t, l, 12, 8)
	times(t, l, 8, 7, 11) // who only reads counts too
	commit(t, l, 11, 9)
	times(t, l, 9, 9)
}

func TestRunningIsTheCallers(t *testing.T) {
	l := New()
	for xid := 1; xid <= 5; xid++ {
		begin(t, l, false, xid)
	}
	first, second := l.Running(), l.Running()
	spoil(first)
	if !slices.Equal(second, []int{1, 2, 3, 4, 5}) {
		t.Fatal(second)
	}
	times(t, l, 0, 0, 1, 2, 3, 4, 5)
	for xid := 1; xid <= 5; xid++ {
		is(t, l, xid, api.Running, 0, 0, false)
	}
	kept := l.Running()
	commit(t, l, 1, 1)
	abort(t, l, 3)
	begin(t, l, false, 6)
	if !slices.Equal(kept, []int{1, 2, 3, 4, 5}) {
		t.Fatal(kept)
	}
	spoil(second)
	times(t, l, 1, 0, 2, 4, 5, 6)
}

// spoil changes all of a list, its spare room included.
func spoil(l []int) {
	l = l[:cap(l)]
	for i := range l {
		l[i] = -7
	}
}

func TestNil(t *testing.T) {
	var l *Log
	for _, reads := range []bool{false, true} {
		if xid, err := l.Begin(reads); xid != 0 || err != api.ErrArg {
			t.Error(xid, err)
		}
	}
	numbers := append(nobodys(), 1, 2, 3)
	for _, xid := range numbers {
		refused(t, l, xid, api.ErrArg)
		is(t, l, xid, 0, 0, 0, false)
		for _, other := range numbers {
			if l.Sees(xid, other) || l.Beside(xid, other) {
				t.Errorf("%d, %d: of nil", xid, other)
			}
		}
	}
	times(t, l, 0, 0)
}

func TestLogsAreApart(t *testing.T) {
	a, b := New(), New()
	begin(t, a, true, 1)
	begin(t, a, false, 2)
	begin(t, b, false, 1)
	commit(t, a, 2, 1)
	times(t, a, 1, 0, 1)
	times(t, b, 0, 0, 1)
	is(t, b, 1, api.Running, 0, 0, false)
	is(t, b, 2, 0, 0, 0, false)
	abort(t, b, 1)
	is(t, a, 1, api.Running, 0, 0, true)
	begin(t, b, false, 2)
	is(t, b, 2, api.Running, 0, 0, false)
}
