package name

import (
	"slices"
	"testing"

	"livery/api"
	"livery/clog"
)

// words is a log and names as the document's words have them.
type words struct {
	clocks   []int        // at which transactions began, by number - 1
	commits  []int        // in their order
	aborted  map[int]bool // by number
	versions []made
}

// made is a version of any name.
type made struct {
	name            string
	xmin, xmax, rel int
}

func newWords() *words { return &words{aborted: map[int]bool{}} }

func (w *words) is(xid int) bool { return 1 <= xid && xid <= len(w.clocks) }

func (w *words) committed(xid int) bool { return slices.Contains(w.commits, xid) }

func (w *words) runs(xid int) bool { return w.is(xid) && !w.committed(xid) && !w.aborted[xid] }

// doings: does xid see the other one's?
func (w *words) doings(xid, other int) bool {
	return w.is(xid) && (xid == other || slices.Contains(w.commits[:w.clocks[xid-1]], other))
}

// sees is where the version that xid sees stands among all, or -1.
func (w *words) sees(xid int, name string) int {
	for i, v := range w.versions {
		x := v.xmax
		if w.aborted[x] {
			x = 0
		}
		if v.name == name && w.doings(xid, v.xmin) && (x == 0 || !w.doings(xid, x)) {
			return i
		}
	}
	return -1
}

func (w *words) unseen(xid int, name string) []int {
	var out []int
	for who := 1; who <= len(w.clocks); who++ {
		did := slices.ContainsFunc(w.versions, func(v made) bool { return v.name == name && (v.xmin == who || v.xmax == who) })
		if did && !w.aborted[who] && !w.doings(xid, who) {
			out = append(out, who)
		}
	}
	return out
}

func (w *words) may(xid int, name string) (api.Errno, int) {
	all := w.unseen(xid, name)
	for _, who := range all {
		if w.runs(who) {
			return api.ErrWaits, who
		}
	}
	for _, who := range all {
		return api.ErrConflict, who
	}
	return api.OK, 0
}

// others is how many other names there may be.
func (w *words) others(xid int, name string) int {
	names := map[string]bool{}
	for _, v := range w.versions {
		x := v.xmax
		if v.name != name && !w.aborted[v.xmin] && (x == 0 || w.aborted[x] || w.runs(x) || !w.doings(xid, x)) {
			names[v.name] = true
		}
	}
	return len(names)
}

func (w *words) end(xid, place int) {
	if place >= 0 {
		w.versions[place].xmax = xid
	}
}

func (w *words) put(xid int, name string, rel int) api.Errno {
	place := w.sees(xid, name)
	err, _ := w.may(xid, name)
	switch {
	case !w.runs(xid):
		return api.ErrArg
	case err != api.OK:
		return err
	case place < 0 && w.others(xid, name) >= api.MaxTables:
		return api.ErrMany
	}
	w.end(xid, place)
	w.versions = append(w.versions, made{name: name, xmin: xid, rel: rel})
	return api.OK
}

func (w *words) drop(xid int, name string) api.Errno {
	place := w.sees(xid, name)
	err, _ := w.may(xid, name)
	switch {
	case !w.runs(xid):
		return api.ErrArg
	case err != api.OK:
		return err
	case place < 0:
		return api.ErrNone
	}
	w.end(xid, place)
	return api.OK
}

// pair is a log and names, and what the words make of them.
type pair struct {
	t *testing.T
	l *clog.Log
	n *Names
	w *words
}

func newPair(t *testing.T) pair { return pair{t, clog.New(), New(), newWords()} }

func (p pair) begin() {
	if _, err := p.l.Begin(false); err == api.OK {
		p.w.clocks = append(p.w.clocks, len(p.w.commits))
	}
}

func (p pair) commit(xid int) {
	if _, err := p.l.Commit(xid); err == api.OK {
		p.w.commits = append(p.w.commits, xid)
	}
}

func (p pair) abort(xid int) {
	if p.l.Abort(xid) == api.OK {
		p.w.aborted[xid] = true
	}
}

// put lets the name stand for another relation each time.
func (p pair) put(xid int, name string) {
	p.t.Helper()
	rel := len(p.w.versions)%api.MaxRels + 1
	want := p.w.put(xid, name, rel)
	if err := p.n.Put(p.l, xid, tab(name, rel)); err != want {
		p.t.Fatalf("Put(%d, %s): %d, wanted %d", xid, name, err, want)
	}
}

func (p pair) drop(xid int, name string) {
	p.t.Helper()
	want := p.w.drop(xid, name)
	if err := p.n.Drop(p.l, xid, name); err != want {
		p.t.Fatalf("Drop(%d, %s): %d, wanted %d", xid, name, err, want)
	}
}

// agree fails unless all is told of both alike.
func (p pair) agree(names []string) {
	p.t.Helper()
	for xid := -1; xid <= len(p.w.clocks)+1; xid++ {
		var list []seen
		for _, name := range names {
			want := answer{unseen: p.w.unseen(xid, name)}
			want.err, want.who = p.w.may(xid, name)
			if place := p.w.sees(xid, name); place >= 0 {
				want.rel = p.w.versions[place].rel
				list = append(list, seen{name, want.rel})
			}
			asked(p.t, p.n, p.l, xid, name, want)
		}
		all(p.t, p.n, p.l, xid, list...)
	}
}

// short does one of twelve steps, if it would do something, and tells whether it
// did: one of three begins, ends, or puts or drops one name.
func (p pair) short(step int) bool {
	p.t.Helper()
	xid, act := step%3+1, step/3
	switch {
	case !p.w.is(xid):
		if act > 0 || xid != len(p.w.clocks)+1 {
			return false
		}
		p.begin()
	case !p.w.runs(xid):
		return false
	case act == 0:
		p.commit(xid)
	case act == 1:
		p.abort(xid)
	case act == 2:
		p.put(xid, "a")
	default:
		p.drop(xid, "a")
	}
	return true
}

// runs goes through all runs that go on from that one, with so many steps more,
// and tells how many there were.
func runs(t *testing.T, run []int, more int) int {
	t.Helper()
	p := newPair(t)
	for _, step := range run {
		if !p.short(step) {
			return 0
		}
	}
	if more == 0 {
		p.agree([]string{"a", "b"})
		return 1
	}
	all := 0
	for step := range 12 {
		all += runs(t, append(run[:len(run):len(run)], step), more-1)
	}
	return all
}

// TestAllShortRuns: up to three transactions, whatever they do with a name, in any
// order.
func TestAllShortRuns(t *testing.T) {
	if n := runs(t, nil, 7); n < 10000 {
		t.Fatalf("there were %d runs", n)
	}
}

// some is a row of numbers that look like chance and are the same each time.
func some(seed uint64) func(n int) int {
	x := seed*0x9e3779b97f4a7c15 + 1
	return func(n int) int {
		x ^= x << 13
		x ^= x >> 7
		x ^= x << 17
		return int(x >> 33 % uint64(n))
	}
}

// step does any one thing; more begins and ends, the more often.
func (p pair) step(next func(int) int, names []string, often int) {
	p.t.Helper()
	xid, name := next(len(p.w.clocks)+2), names[next(len(names))]
	if running := p.l.Running(); len(running) > 0 && next(4) > 0 {
		xid = running[next(len(running))]
	}
	switch act := next(10 + 3*often); {
	case act < 7:
		p.put(xid, name)
	case act < 10:
		p.drop(xid, name)
	case act < 10+often && len(p.l.Running()) < 4:
		p.begin()
	case act < 10+2*often:
		p.commit(xid)
	default:
		p.abort(xid)
	}
}

func TestLongRuns(t *testing.T) {
	few, many := []string{"a", "b"}, []string{"a", "b", "c", "d", "e", "f", "g", "h", "i", "j"}
	for seed := range uint64(80) {
		p, next, names := newPair(t), some(seed), few
		if seed%4 > 0 {
			names = many
		}
		for range 200 {
			p.step(next, names, int(seed%5)+1)
			if next(10) == 0 {
				p.agree(names)
			}
		}
		p.agree(names)
	}
}

// TestWhoeverDoesNotWriteSeesTheSame is P12.4: it asks all that a transaction sees
// at its beginning and again behind each thing that others do, till it has ended.
func TestWhoeverDoesNotWriteSeesTheSame(t *testing.T) {
	names := []string{"a", "b", "c", "d", "e", "f", "g", "h"}
	for seed := range uint64(60) {
		p, next := newPair(t), some(seed+700)
		for range 60 {
			p.step(next, names, 2)
		}
		p.begin()
		reader := len(p.w.clocks)
		want := list(p.n, p.l, reader)
		for range 150 {
			if !p.w.runs(reader) {
				break
			}
			xid := next(reader+20) + 1 // among them those that begin behind it
			switch act := next(12); {
			case act < 2:
				p.begin()
			case act < 4 && xid != reader:
				p.commit(xid)
			case act < 5 && xid != reader:
				p.abort(xid)
			case act < 9 && xid != reader:
				p.put(xid, names[next(len(names))])
			case xid != reader:
				p.drop(xid, names[next(len(names))])
			}
			if got := list(p.n, p.l, reader); !slices.Equal(got, want) {
				t.Fatalf("%d sees %v, and saw %v when it began", reader, got, want)
			}
			for _, name := range names {
				x, ok := p.n.See(p.l, reader, name)
				if at := slices.IndexFunc(want, func(s seen) bool { return s.name == name }); ok != (at >= 0) || ok && x.Rel != want[at].rel {
					t.Fatalf("%d sees %s stand for %v, %t, and saw %v when it began", reader, name, x, ok, want)
				}
			}
		}
	}
}
