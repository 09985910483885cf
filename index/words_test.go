package index

import (
	"cmp"
	"slices"
	"testing"

	"livery/api"
	"livery/key"
	"livery/leaf"
	"livery/value"
)

// entry is one as the document's words have it.
type entry struct {
	v   api.Value
	tid int
}

// words is an index as the document's words have it: entries in no order, and the
// leaves on which their keys are.
type words struct {
	entries []entry
	leaves  *leaf.Leaves
}

func newWords(t *testing.T, fan int) *words {
	t.Helper()
	l, err := leaf.New(fan)
	if err != api.OK {
		t.Fatal(fan, err)
	}
	return &words{leaves: l}
}

// at is the place of an entry, or -1. Only what is good has one, though it may be
// the same as what is not.
func (w *words) at(v api.Value, tid int) int {
	return slices.IndexFunc(w.entries, func(o entry) bool { return value.Good(v) && value.Same(o.v, v) && o.tid == tid })
}

func (w *words) add(v api.Value, tid int) (int, leaf.Move, api.Errno) {
	k, err := key.Entry(v, tid)
	switch {
	case err != api.OK:
		return 0, leaf.Move{}, err
	case w.at(v, tid) < 0:
		w.entries = append(w.entries, entry{v, tid})
	}
	return w.leaves.Insert(k)
}

func (w *words) drop(v api.Value, tid int) (int, leaf.Move, api.Errno) {
	k, err := key.Entry(v, tid)
	if err != api.OK {
		return 0, leaf.Move{}, err
	}
	if i := w.at(v, tid); i >= 0 {
		w.entries = slices.Delete(w.entries, i, i+1)
	}
	return w.leaves.Remove(k)
}

// tids are those of the entries whose values are meant, by value, then by tid.
func (w *words) tids(means func(api.Value) bool) (out []int) {
	var l []entry
	for _, o := range w.entries {
		if means(o.v) {
			l = append(l, o)
		}
	}
	slices.SortFunc(l, func(a, b entry) int { return cmp.Or(value.Compare(a.v, b.v), a.tid-b.tid) })
	for _, o := range l {
		out = append(out, o.tid)
	}
	return out
}

func (w *words) find(v api.Value) (l lists) {
	if !value.Good(v) {
		return l
	}
	from, _ := key.Least(v)
	to, _ := key.After(v)
	_, l.leaves = w.leaves.Range(from, to)
	l.tids = w.tids(func(o api.Value) bool { return value.Same(o, v) })
	return l
}

func (w *words) ranged(v, u api.Value) (l lists) {
	if !value.Good(v) || !value.Good(u) || value.Compare(v, u) >= 0 {
		return l
	}
	from, _ := key.Least(v)
	to, _ := key.Least(u)
	_, l.leaves = w.leaves.Range(from, to)
	l.tids = w.tids(func(o api.Value) bool { return value.Compare(v, o) <= 0 && value.Compare(o, u) < 0 })
	return l
}

// pair is an index, and what the words make of it.
type pair struct {
	t *testing.T
	x *Index
	w *words
}

func newPair(t *testing.T, fan int) pair {
	t.Helper()
	return pair{t, made(t, fan), newWords(t, fan)}
}

func (p pair) add(v api.Value, tid int) {
	p.t.Helper()
	n, m, err := p.x.Add(v, tid)
	if leaf, move, want := p.w.add(v, tid); n != leaf || m != move || err != want {
		p.t.Fatalf("Add(%v, %d): %d, %v, %d, wanted %d, %v, %d", v, tid, n, m, err, leaf, move, want)
	}
}

func (p pair) drop(v api.Value, tid int) {
	p.t.Helper()
	n, m, err := p.x.Drop(v, tid)
	if leaf, move, want := p.w.drop(v, tid); n != leaf || m != move || err != want {
		p.t.Fatalf("Drop(%v, %d): %d, %v, %d, wanted %d, %v, %d", v, tid, n, m, err, leaf, move, want)
	}
}

// toggle puts an entry in, or takes it away if it is there.
func (p pair) toggle(v api.Value, tid int) {
	p.t.Helper()
	if p.w.at(v, tid) < 0 {
		p.add(v, tid)
	} else {
		p.drop(v, tid)
	}
}

// agree fails unless all is told of both alike; those values and tids are asked.
func (p pair) agree(values []api.Value, tids []int) {
	p.t.Helper()
	stand(p.t, p.x, len(p.w.entries), p.w.leaves.All()...)
	for _, v := range values {
		for _, tid := range tids {
			if got := p.x.Has(v, tid); got != (p.w.at(v, tid) >= 0) {
				p.t.Fatalf("Has(%v, %d): %t", v, tid, got)
			}
		}
		want := p.w.find(v)
		find(p.t, p.x, v, want.tids, want.leaves)
		for _, u := range values {
			want := p.w.ranged(v, u)
			ranged(p.t, p.x, v, u, want.tids, want.leaves)
		}
	}
}

// TestAllShortRuns: a few entries that come and go in any order.
func TestAllShortRuns(t *testing.T) {
	const steps = 6
	entries := []entry{{whole(4), 65535}, {whole(5), 0}, {whole(5), 1}, {whole(5), 65535}, {whole(6), 0}}
	values := []api.Value{whole(3), whole(4), whole(5), whole(6), whole(7)}
	runs := 1
	for range steps {
		runs *= len(entries)
	}
	for run := range runs {
		p := newPair(t, 2)
		n := run
		for range steps {
			o := entries[n%len(entries)]
			p.toggle(o.v, o.tid)
			n /= len(entries)
		}
		p.agree(values, []int{0, 1, 65535})
	}
}

// some is a row of numbers that look like chance and are the same each time.
func some(seed uint64) func(n int) int {
	x := seed*0x9e3779b97f4a7c15 + 1
	return func(n int) int {
		x ^= x << 13
		x ^= x >> 7
		x ^= x << 17
		return int(x >> 33 % uint64(n))
	}
}

// one is any of a list.
func one[T any](next func(int) int, l []T) T { return l[next(len(l))] }

// TestLongRuns is P11.3 too: entries of values of all kinds, good and bad, come in
// one part of a run and go in the next one.
func TestLongRuns(t *testing.T) {
	good, tids := rising(), []int{0, 1, 2, 255, 256, 65534, 65535}
	for seed := range uint64(60) {
		next := some(seed)
		p := newPair(t, 2+next(6))
		few := []api.Value{one(next, good), one(next, good), one(next, good), one(next, good)}
		for n := range 300 {
			v, tid := one(next, few), one(next, tids)
			switch {
			case next(30) == 0:
				v = one(next, bad())
			case next(30) == 0:
				tid = one(next, wrong())
			}
			if next(60) < 15+30*(n/50%2) {
				p.drop(v, tid)
			} else {
				p.add(v, tid)
			}
			if next(20) == 0 {
				p.agree(append(few, one(next, good), one(next, bad())), append(tids, one(next, wrong())))
			}
		}
		p.agree(good, tids)
	}
}

// TestGreatFans: leaves of all fans, that fill and part, and go again.
func TestGreatFans(t *testing.T) {
	values := []api.Value{whole(-1), whole(0), whole(3), whole(7), whole(8)}
	for fan := 2; fan <= api.MaxFan; fan++ {
		p, next := newPair(t, fan), some(uint64(fan))
		for range 300 {
			p.add(whole(int64(next(8))), next(50))
		}
		p.agree(values, []int{0, 20, 49})
		for range 1500 {
			p.drop(whole(int64(next(8))), next(50))
		}
		p.agree(values, []int{0, 20, 49})
	}
}

// TestManyEntries: all tids of one value, and none of its neighbours'.
func TestManyEntries(t *testing.T) {
	x := made(t, api.MaxFan)
	for n := range 65536 {
		tid := n * 0x9e37 % 65536 // an odd factor keeps all apart
		if _, _, err := x.Add(whole(5), tid); err != api.OK {
			t.Fatal(tid, err)
		}
	}
	x.Add(whole(4), 65535)
	x.Add(whole(6), 0)
	tids, leaves := x.Find(whole(5))
	all, _ := x.Range(whole(5), whole(6))
	if len(tids) != 65536 || !slices.IsSorted(tids) || !slices.Equal(all, tids) || len(leaves) < 65536/api.MaxFan {
		t.Fatal(len(tids), len(all), len(leaves))
	}
	for tid := range 65536 {
		if tids[tid] != tid {
			t.Fatal(tid, tids[tid])
		}
		if _, _, err := x.Drop(whole(5), tid); err != api.OK {
			t.Fatal(tid, err)
		}
	}
	if tids, _ := x.Find(whole(5)); len(tids) != 0 || x.Len() != 2 {
		t.Fatal(tids, x.Len())
	}
}
