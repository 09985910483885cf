package clog

import (
	"slices"
	"testing"

	"livery/api"
)

// words is a log as the document's words have it: what was done, in its order.
type words struct {
	begun   []int        // the clocks at which they began, by number - 1
	reads   map[int]bool // by number
	commits []int        // in their order
	aborts  map[int]bool // by number
}

func newWords() *words { return &words{reads: map[int]bool{}, aborts: map[int]bool{}} }

func (w *words) there(xid int) bool { return 1 <= xid && xid <= len(w.begun) }

func (w *words) csn(xid int) int { return slices.Index(w.commits, xid) + 1 }

func (w *words) runs(xid int) bool { return w.there(xid) && w.csn(xid) == 0 && !w.aborts[xid] }

func (w *words) snapshot(xid int) int {
	if !w.there(xid) {
		return 0
	}
	return w.begun[xid-1]
}

func (w *words) state(xid int) int {
	switch {
	case w.runs(xid):
		return api.Running
	case w.csn(xid) != 0:
		return api.Committed
	case w.aborts[xid]:
		return api.Aborted
	}
	return 0
}

// sees: what was committed when it began, and itself.
func (w *words) sees(xid, other int) bool {
	return w.there(xid) && (xid == other || slices.Contains(w.commits[:w.snapshot(xid)], other))
}

// beside: each committed behind the other one's snapshot, or is running.
func (w *words) beside(a, b int) bool {
	return a != b && w.behind(a, b) && w.behind(b, a)
}

func (w *words) behind(a, b int) bool {
	return w.there(b) && (w.runs(a) || slices.Contains(w.commits[w.snapshot(b):], a))
}

func (w *words) running() []int {
	var out []int
	for xid := 1; xid <= len(w.begun); xid++ {
		if w.runs(xid) {
			out = append(out, xid)
		}
	}
	return out
}

func (w *words) horizon() int {
	out := len(w.commits)
	for _, xid := range w.running() {
		out = min(out, w.snapshot(xid))
	}
	return out
}

// pair is a log and what the words make of it.
type pair struct {
	t *testing.T
	l *Log
	w *words
}

func newPair(t *testing.T) pair { return pair{t, New(), newWords()} }

func (p pair) begin(reads bool) {
	p.t.Helper()
	xid, err := p.l.Begin(reads)
	if len(p.w.begun) == api.MaxTx {
		if xid != 0 || err != api.ErrFull {
			p.t.Fatalf("Begin: %d, %d", xid, err)
		}
		return
	}
	p.w.begun = append(p.w.begun, len(p.w.commits))
	p.w.reads[len(p.w.begun)] = reads
	if xid != len(p.w.begun) || err != api.OK {
		p.t.Fatalf("Begin: %d, %d", xid, err)
	}
}

func (p pair) commit(xid int) {
	p.t.Helper()
	want, wanted := 0, api.ErrState
	if p.w.runs(xid) {
		p.w.commits = append(p.w.commits, xid)
		want, wanted = len(p.w.commits), api.OK
	}
	if csn, err := p.l.Commit(xid); csn != want || err != wanted {
		p.t.Fatalf("Commit(%d): %d, %d, wanted %d, %d", xid, csn, err, want, wanted)
	}
}

func (p pair) abort(xid int) {
	p.t.Helper()
	want := api.ErrState
	if p.w.runs(xid) {
		p.w.aborts[xid] = true
		want = api.OK
	}
	if err := p.l.Abort(xid); err != want {
		p.t.Fatalf("Abort(%d): %d, wanted %d", xid, err, want)
	}
}

// agree fails unless all is told of both alike, of the numbers 0 to one behind
// the last one.
func (p pair) agree() {
	p.t.Helper()
	l, w := p.l, p.w
	times(p.t, l, len(w.commits), w.horizon(), w.running()...)
	for a := range len(w.begun) + 2 {
		is(p.t, l, a, w.state(a), w.csn(a), w.snapshot(a), w.reads[a])
		for b := range len(w.begun) + 2 {
			if l.Sees(a, b) != w.sees(a, b) || l.Beside(a, b) != w.beside(a, b) {
				p.t.Fatalf("%d, %d: sees %t, beside %t; wanted %t, %t", a, b, l.Sees(a, b), l.Beside(a, b), w.sees(a, b), w.beside(a, b))
			}
		}
	}
	p.beginnings()
}

// beginnings is P8.3: each one sees a beginning of the commits and nothing else
// but itself, and each later one sees no less.
func (p pair) beginnings() {
	p.t.Helper()
	before := 0
	for xid := 1; xid <= len(p.w.begun); xid++ {
		seen := 0
		for i, other := range p.w.commits {
			if other == xid || !p.l.Sees(xid, other) {
				continue
			}
			if i != seen {
				p.t.Fatalf("%d sees the commit %d, and only %d ahead of it", xid, i+1, seen)
			}
			seen++
		}
		for other := range len(p.w.begun) + 2 {
			if other != xid && p.l.Csn(other) == 0 && p.l.Sees(xid, other) {
				p.t.Fatalf("%d sees %d, which is not committed", xid, other)
			}
		}
		if seen < before {
			p.t.Fatalf("%d sees %d commits, an earlier one %d", xid, seen, before)
		}
		before = seen
	}
}

// act does one of 8 things: begins, commits and aborts of the first three.
func (p pair) act(n int) {
	p.t.Helper()
	switch {
	case n < 2:
		p.begin(n == 1)
	case n < 5:
		p.commit(n - 1)
	default:
		p.abort(n - 4)
	}
}

func TestAllShortRuns(t *testing.T) {
	const acts, steps = 8, 5
	for run := range 1 << (3 * steps) {
		p := newPair(t)
		for rest := range steps {
			p.act(run >> (3 * rest) % acts)
		}
		p.agree()
	}
}

// some is a row of numbers that look like chance and are the same each time.
func some(seed uint64) func(n int) int {
	x := seed*0x9e3779b97f4a7c15 + 1
	return func(n int) int {
		x ^= x << 13
		x ^= x >> 7
		x ^= x << 17
		return int(x >> 33 % uint64(n))
	}
}

func TestLongRuns(t *testing.T) {
	for seed := range uint64(40) {
		p, next := newPair(t), some(seed)
		for range 100 {
			switch n := next(10); {
			case n < 5:
				p.begin(next(3) == 0)
			case n < 8:
				p.commit(next(len(p.w.begun) + 2))
			default:
				p.abort(next(len(p.w.begun) + 2))
			}
			if next(10) == 0 {
				p.agree()
			}
		}
		p.agree()
	}
}

func TestRunToTheEnd(t *testing.T) {
	p, next := newPair(t), some(77)
	for range 3 * api.MaxTx {
		p.begin(next(2) == 0)
		p.commit(1 + next(len(p.w.begun)))
		p.abort(1 + next(len(p.w.begun)))
	}
	p.agree()
	for xid := range api.MaxTx + 2 {
		p.commit(xid)
	}
	p.agree()
}

// TestSeenOnce is P8.3: what is seen is seen ever after, and by all that begin
// later.
func TestSeenOnce(t *testing.T) {
	for seed := range uint64(10) {
		p, next := newPair(t), some(seed+1000)
		seen := map[[2]int]bool{}
		for range 40 {
			p.begin(next(2) == 0)
			p.commit(1 + next(len(p.w.begun)))
			if next(3) == 0 {
				p.abort(1 + next(len(p.w.begun)))
			}
			last := len(p.w.begun)
			for who := range seen {
				if !p.l.Sees(who[0], who[1]) || p.l.Csn(who[1]) != 0 && who[0] != who[1] && !p.l.Sees(last, who[1]) {
					t.Fatalf("%d saw %d", who[0], who[1])
				}
			}
			for a := 1; a <= last; a++ {
				for b := 1; b <= last; b++ {
					if p.l.Sees(a, b) {
						seen[[2]int{a, b}] = true
					}
				}
			}
		}
	}
}
