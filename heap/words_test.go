package heap

import (
	"slices"
	"testing"

	"livery/api"
	"livery/clog"
)

// words is a log and a relation as the document's words have them.
type words struct {
	clocks   []int        // at which transactions began, by number - 1
	commits  []int        // in their order
	aborted  map[int]bool // by number
	versions []api.Tuple  // by tid, all that there ever were
	gone     map[int]bool // by tid
}

func newWords() *words { return &words{aborted: map[int]bool{}, gone: map[int]bool{}} }

func (w *words) is(xid int) bool { return 1 <= xid && xid <= len(w.clocks) }

func (w *words) committed(xid int) bool { return slices.Contains(w.commits, xid) }

func (w *words) runs(xid int) bool { return w.is(xid) && !w.committed(xid) && !w.aborted[xid] }

func (w *words) running() []int {
	var out []int
	for xid := range len(w.clocks) + 1 {
		if w.runs(xid) {
			out = append(out, xid)
		}
	}
	return out
}

// doings: does xid see the other one's?
func (w *words) doings(xid, other int) bool {
	return w.is(xid) && (xid == other || slices.Contains(w.commits[:w.clocks[xid-1]], other))
}

func (w *words) there(tid int) bool { return 0 <= tid && tid < len(w.versions) && !w.gone[tid] }

func (w *words) all() []int {
	var out []int
	for tid := range w.versions {
		if w.there(tid) {
			out = append(out, tid)
		}
	}
	return out
}

// xmax is 0 where it counts as 0.
func (w *words) xmax(tid int) int {
	if x := w.versions[tid].Xmax; !w.aborted[x] {
		return x
	}
	return 0
}

func (w *words) sees(xid, tid int) bool {
	if !w.there(tid) {
		return false
	}
	x := w.xmax(tid)
	return w.doings(xid, w.versions[tid].Xmin) && (x == 0 || !w.doings(xid, x))
}

func (w *words) may(xid, tid int) (api.Errno, int) {
	if !w.there(tid) || !w.doings(xid, w.versions[tid].Xmin) {
		return api.ErrNone, 0
	}
	x := w.xmax(tid)
	switch {
	case x == 0:
		return api.OK, 0
	case x == xid:
		return api.ErrNone, 0
	case w.runs(x):
		return api.ErrWaits, x
	case w.committed(x) && w.doings(xid, x):
		return api.ErrNone, 0
	case w.committed(x):
		return api.ErrConflict, x
	}
	return api.OK, 0
}

func (w *words) unseen(xid, tid int) []int {
	if !w.there(tid) {
		return nil
	}
	v, x := w.versions[tid], w.xmax(tid)
	switch {
	case !w.aborted[v.Xmin] && !w.doings(xid, v.Xmin):
		return []int{v.Xmin}
	case w.doings(xid, v.Xmin) && x != 0 && !w.doings(xid, x):
		return []int{x}
	}
	return nil
}

// over: does nobody see it any more?
func (w *words) over(tid int) bool {
	horizon := len(w.commits)
	for _, xid := range w.running() {
		horizon = min(horizon, w.clocks[xid-1])
	}
	v := w.versions[tid]
	return w.aborted[v.Xmin] || slices.Contains(w.commits[:horizon], v.Xmax)
}

// pair is a log and a relation, and what the words make of them.
type pair struct {
	t *testing.T
	l *clog.Log
	r *Rel
	w *words
}

func newPair(t *testing.T) pair { return pair{t, clog.New(), New(), newWords()} }

func (p pair) begin() {
	if _, err := p.l.Begin(false); err == api.OK {
		p.w.clocks = append(p.w.clocks, len(p.w.commits))
	}
}

func (p pair) commit(xid int) {
	if _, err := p.l.Commit(xid); err == api.OK {
		p.w.commits = append(p.w.commits, xid)
	}
}

func (p pair) abort(xid int) {
	if p.l.Abort(xid) == api.OK {
		p.w.aborted[xid] = true
	}
}

func (p pair) insert(xid int) {
	p.t.Helper()
	next := len(p.w.versions)
	want, wanted := next, api.OK
	switch {
	case xid < 1:
		want, wanted = 0, api.ErrArg
	case len(p.w.all()) == api.MaxRows || next == 65536:
		want, wanted = 0, api.ErrFull
	default:
		p.w.versions = append(p.w.versions, api.Tuple{Xmin: xid, Row: ints(int64(next))})
	}
	if tid, err := p.r.Insert(xid, ints(int64(next))); tid != want || err != wanted {
		p.t.Fatalf("Insert(%d): %d, %d, wanted %d, %d", xid, tid, err, want, wanted)
	}
}

func (p pair) end(xid, tid int) {
	p.t.Helper()
	want := api.OK
	switch {
	case xid < 1:
		want = api.ErrArg
	case !p.w.there(tid):
		want = api.ErrNone
	default:
		p.w.versions[tid].Xmax = xid
	}
	if err := p.r.Delete(xid, tid); err != want {
		p.t.Fatalf("Delete(%d, %d): %d, wanted %d", xid, tid, err, want)
	}
}

func (p pair) vacuum() {
	p.t.Helper()
	var want []int
	for _, tid := range p.w.all() {
		if p.w.over(tid) {
			want = append(want, tid)
		}
	}
	for _, tid := range want {
		p.w.gone[tid] = true
	}
	vacuum(p.t, p.r, p.l, want...)
}

// agree fails unless all is told of both alike.
func (p pair) agree() {
	p.t.Helper()
	all(p.t, p.r, p.w.all()...)
	for tid := -1; tid <= len(p.w.versions); tid++ {
		v, ok := p.r.Get(tid)
		if ok != p.w.there(tid) {
			p.t.Fatalf("Get(%d): %v, %t", tid, v, ok)
		}
		if ok {
			is(p.t, p.r, tid, p.w.versions[tid].Xmin, p.w.versions[tid].Xmax, p.w.versions[tid].Row)
		}
		for xid := -1; xid <= len(p.w.clocks)+1; xid++ {
			err, who := p.w.may(xid, tid)
			asked(p.t, p.r, p.l, xid, tid, answer{p.w.sees(xid, tid), err, who, p.w.unseen(xid, tid)})
		}
	}
	p.copies()
}

// copies fails unless a copy has just the versions that are not over, in order.
func (p pair) copies() {
	p.t.Helper()
	c := p.r.Copy(p.l)
	n := 0
	for _, tid := range p.w.all() {
		if p.w.over(tid) {
			continue
		}
		is(p.t, c, n, p.w.versions[tid].Xmin, p.w.versions[tid].Xmax, p.w.versions[tid].Row)
		n++
	}
	if got := len(c.All()); got != n {
		p.t.Fatalf("a copy has %d versions, wanted %d", got, n)
	}
	insert(p.t, c, 1, nil, n)
}

// TestAllOfOneVersion: whoever made it, whoever ended it, whoever looks, with
// three that each are in any state and have any snapshot.
func TestAllOfOneVersion(t *testing.T) {
	const acts, steps = 7, 6 // begin; commit, abort of each of three
	for run := range 1 << (3 * steps) {
		p := newPair(t)
		p.run(run, acts, steps)
		if len(p.w.clocks)+len(p.w.commits)+len(p.w.aborted) < steps {
			continue // a step did nothing
		}
		for xmin := 1; xmin <= 4; xmin++ {
			for xmax := range 5 {
				p.insert(xmin)
				p.end(xmax, len(p.w.versions)-1)
			}
		}
		p.agree()
		p.vacuum()
		p.agree()
	}
}

// run does the steps whose numbers stand in n, three bits each.
func (p pair) run(n, acts, steps int) {
	for step := range steps {
		switch act := n >> (3 * step) % 8 % acts; {
		case act == 0:
			p.begin()
		case act < 4:
			p.commit(act)
		default:
			p.abort(act - 3)
		}
	}
}

// some is a row of numbers that look like chance and are the same each time.
func some(seed uint64) func(n int) int {
	x := seed*0x9e3779b97f4a7c15 + 1
	return func(n int) int {
		x ^= x << 13
		x ^= x >> 7
		x ^= x << 17
		return int(x >> 33 % uint64(n))
	}
}

// step does any one thing.
func (p pair) step(next func(int) int) {
	p.t.Helper()
	xid, tid := next(len(p.w.clocks)+2), next(len(p.w.versions)+2)
	switch n := next(20); {
	case n < 3:
		p.begin()
	case n < 5:
		p.commit(xid)
	case n < 6:
		p.abort(xid)
	case n < 12:
		p.insert(xid)
	case n < 19:
		p.end(xid, tid)
	default:
		p.vacuum()
	}
}

func TestLongRuns(t *testing.T) {
	for seed := range uint64(60) {
		p, next := newPair(t), some(seed)
		for range 120 {
			p.step(next)
			if next(12) == 0 {
				p.agree()
			}
		}
		p.agree()
	}
}

// rows are the numbers of the rows that xid sees, in order.
func rows(t *testing.T, r *Rel, l *clog.Log, xid int) []int64 {
	t.Helper()
	var out []int64
	for _, tid := range r.Visible(l, xid) {
		v, ok := r.Get(tid)
		if !ok {
			t.Fatalf("%d sees the version %d, but there is none", xid, tid)
		}
		out = append(out, v.Row[0].N)
	}
	return out
}

// TestNothingSeenGoes is P9.5, of any versions: whoever runs, and whoever begins
// next, sees the same rows behind a Vacuum, and in a Copy.
func TestNothingSeenGoes(t *testing.T) {
	for seed := range uint64(200) {
		p, next := newPair(t), some(seed+5000)
		for range 80 {
			p.step(next)
		}
		p.begin() // who begins next
		before := map[int][]int64{}
		for _, xid := range p.w.running() {
			before[xid] = rows(t, p.r, p.l, xid)
		}
		c := p.r.Copy(p.l)
		for xid, want := range before {
			if got := rows(t, c, p.l, xid); !slices.Equal(got, want) {
				t.Fatalf("%d sees %v of a copy, %v ahead of it", xid, got, want)
			}
		}
		p.vacuum()
		for xid, want := range before {
			if got := rows(t, p.r, p.l, xid); !slices.Equal(got, want) {
				t.Fatalf("%d sees %v behind a vacuum, %v ahead of it", xid, got, want)
			}
		}
	}
}

// trio is one relation as it is, one that is vacuumed again and again, and one that
// is copied again and again; rows are told apart by their numbers.
type trio struct {
	plain, clean, copied *Rel
	made                 int64
}

func (x *trio) insert(t *testing.T, xid int) {
	t.Helper()
	for _, r := range []*Rel{x.plain, x.clean, x.copied} {
		if _, err := r.Insert(xid, ints(x.made)); err != api.OK {
			t.Fatal(err)
		}
	}
	x.made++
}

// tid is the number of the version that xid sees with that row.
func tid(t *testing.T, r *Rel, l *clog.Log, xid int, n int64) int {
	t.Helper()
	i := slices.Index(rows(t, r, l, xid), n)
	if i < 0 {
		t.Fatalf("%d sees no row %d", xid, n)
	}
	return r.Visible(l, xid)[i]
}

// end lets xid end a row that it sees, if it may, and fails unless it may of all
// three or of none.
func (x *trio) end(t *testing.T, l *clog.Log, xid int, n int64) {
	t.Helper()
	want, whom := x.plain.May(l, xid, tid(t, x.plain, l, xid, n))
	for _, r := range []*Rel{x.plain, x.clean, x.copied} {
		at := tid(t, r, l, xid, n)
		if err, who := r.May(l, xid, at); err != want || who != whom {
			t.Fatalf("%d of row %d: %d, %d, wanted %d, %d", xid, n, err, who, want, whom)
		}
		if want == api.OK {
			end(t, r, xid, at)
		}
	}
}

// TestNothingSeenGoesLater is P9.5, of all that runs or begins later: three
// relations through which the same goes are seen alike, though one is vacuumed and
// one is copied in between.
func TestNothingSeenGoesLater(t *testing.T) {
	for seed := range uint64(60) {
		next := some(seed + 9000)
		l, x := clog.New(), &trio{plain: New(), clean: New(), copied: New()}
		for range 150 {
			if len(l.Running()) < 2 {
				l.Begin(false)
			}
			running := l.Running()
			xid := running[next(len(running))]
			switch n := next(16); {
			case n < 1:
				l.Begin(false)
			case n < 3:
				l.Commit(xid)
			case n < 4:
				l.Abort(xid)
			case n < 8:
				x.insert(t, xid)
			case n < 13:
				if seen := rows(t, x.plain, l, xid); len(seen) > 0 {
					x.end(t, l, xid, seen[next(len(seen))])
				}
			case n < 14:
				x.clean.Vacuum(l)
			default:
				x.copied = x.copied.Copy(l)
			}
			for _, xid := range l.Running() {
				want := rows(t, x.plain, l, xid)
				if got, of := rows(t, x.clean, l, xid), rows(t, x.copied, l, xid); !slices.Equal(got, want) || !slices.Equal(of, want) {
					t.Fatalf("%d sees %v, %v of the copy, wanted %v", xid, got, of, want)
				}
			}
		}
	}
}
