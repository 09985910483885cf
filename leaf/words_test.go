package leaf

import (
	"slices"
	"strconv"
	"strings"
	"testing"

	"livery/api"
)

// words is leaves as the document's words have them.
type words struct {
	fan    int
	leaves []one
	made   int // how many there ever were
}

// one is a leaf. The first one's bound counts for nothing.
type one struct {
	number int
	bound  string
	keys   map[string]bool
}

func newWords(fan int) *words {
	return &words{fan: fan, leaves: []one{{1, "", map[string]bool{}}}, made: 1}
}

func (o one) rising() []string {
	var out []string
	for k := range o.keys {
		out = append(out, k)
	}
	slices.Sort(out)
	return out
}

// place is the place of k's leaf: the last one whose bound is not above it.
func (w *words) place(k string) int {
	for i := len(w.leaves) - 1; i > 0; i-- {
		if !(w.leaves[i].bound > k) {
			return i
		}
	}
	return 0
}

func (w *words) of(k string) int { return w.leaves[w.place(k)].number }

func (w *words) has(k string) bool { return w.leaves[w.place(k)].keys[k] }

func (w *words) insert(k string) (int, Move, api.Errno) {
	switch {
	case len(k) > api.MaxKey:
		return 0, Move{}, api.ErrLong
	case w.has(k):
		return 0, Move{}, api.ErrTwice
	}
	i := w.place(k)
	l := w.leaves[i]
	l.keys[k] = true
	if len(l.keys) <= w.fan {
		return l.number, Move{}, api.OK
	}
	all := l.rising()
	w.made++
	behind := one{w.made, all[(len(all)+1)/2], map[string]bool{}}
	for _, k := range all {
		if k >= behind.bound {
			delete(l.keys, k)
			behind.keys[k] = true
		}
	}
	w.leaves = slices.Insert(w.leaves, i+1, behind)
	m := Move{l.number, behind.number}
	if behind.keys[k] {
		return behind.number, m, api.OK
	}
	return l.number, m, api.OK
}

func (w *words) remove(k string) (int, Move, api.Errno) {
	if !w.has(k) {
		return 0, Move{}, api.ErrNone
	}
	i := w.place(k)
	l := w.leaves[i]
	delete(l.keys, k)
	if len(l.keys) > 0 || len(w.leaves) == 1 {
		return l.number, Move{}, api.OK
	}
	heir := i + 1
	if i > 0 {
		heir = i - 1
	}
	m := Move{l.number, w.leaves[heir].number}
	w.leaves = slices.Delete(w.leaves, i, i+1)
	return l.number, m, api.OK
}

func (w *words) ranged(from, to string) (keys []string, leaves []int) {
	if to != "" && to <= from {
		return nil, nil
	}
	last := len(w.leaves) - 1
	if to != "" {
		last = w.place(to)
	}
	for i := w.place(from); i <= last; i++ {
		leaves = append(leaves, w.leaves[i].number)
	}
	for _, l := range w.leaves {
		for _, k := range l.rising() {
			if k >= from && (to == "" || k < to) {
				keys = append(keys, k)
			}
		}
	}
	return keys, leaves
}

// pair is leaves, and what the words make of them.
type pair struct {
	t *testing.T
	x *Leaves
	w *words
}

func newPair(t *testing.T, fan int) pair { return pair{t, made(t, fan), newWords(fan)} }

func (p pair) insert(k string) Move {
	p.t.Helper()
	n, m, err := p.x.Insert(k)
	if leaf, move, want := p.w.insert(k); n != leaf || m != move || err != want {
		p.t.Fatalf("Insert(%.9q): %d, %v, %d, wanted %d, %v, %d", k, n, m, err, leaf, move, want)
	}
	return m
}

func (p pair) remove(k string) Move {
	p.t.Helper()
	n, m, err := p.x.Remove(k)
	if leaf, move, want := p.w.remove(k); n != leaf || m != move || err != want {
		p.t.Fatalf("Remove(%.9q): %d, %v, %d, wanted %d, %v, %d", k, n, m, err, leaf, move, want)
	}
	return m
}

// toggle puts k in, or takes it away if it is there.
func (p pair) toggle(k string) Move {
	p.t.Helper()
	if p.w.has(k) {
		return p.remove(k)
	}
	return p.insert(k)
}

// agree fails unless all is told of both alike; of keys and ranges those are
// asked that stand in keys.
func (p pair) agree(keys []string) {
	p.t.Helper()
	var all []sheet
	for _, l := range p.w.leaves {
		all = append(all, sheet{l.number, l.rising()})
	}
	stand(p.t, p.x, all...)
	for _, from := range keys {
		if p.x.Has(from) != p.w.has(from) {
			p.t.Fatalf("Has(%q): %t", from, p.x.Has(from))
		}
		of(p.t, p.x, p.w.of(from), from)
		for _, to := range keys {
			k, l := p.w.ranged(from, to)
			ranged(p.t, p.x, from, to, k, l)
		}
	}
	for n := -1; n <= p.w.made+1; n++ {
		if !slices.ContainsFunc(p.w.leaves, func(o one) bool { return o.number == n }) && len(p.x.Keys(n)) != 0 {
			p.t.Fatalf("Keys(%d): %q", n, p.x.Keys(n))
		}
	}
}

// TestAllShortRuns: a few keys that come and go in any order.
func TestAllShortRuns(t *testing.T) {
	for _, y := range []struct{ fan, keys, steps int }{{2, 4, 7}, {2, 6, 6}, {3, 5, 6}} {
		keys := split("bdfhjl")[:y.keys]
		asked := append([]string{"", "a", "z"}, keys...)
		runs := 1
		for range y.steps {
			runs *= y.keys
		}
		for run := range runs {
			p := newPair(t, y.fan)
			for n := run; n > 0; n /= y.keys {
				p.toggle(keys[n%y.keys])
			}
			if p.w.made > 1 {
				p.agree(asked)
			}
		}
	}
}

// some is a row of numbers that look like chance and are the same each time.
func some(seed uint64) func(n int) int {
	x := seed*0x9e3779b97f4a7c15 + 1
	return func(n int) int {
		x ^= x << 13
		x ^= x >> 7
		x ^= x << 17
		return int(x >> 33 % uint64(n))
	}
}

// key is any one of not too many, short and long ones and some that are too long.
func key(next func(int) int) string {
	switch next(40) {
	case 0:
		return strings.Repeat("k", api.MaxKey-1+next(4))
	case 1:
		return ""
	}
	var out []byte
	for range 1 + next(3) {
		out = append(out, "\x00ab\xff"[next(4)])
	}
	return string(out)
}

// step lets keys come in one part of a run, and go in the next one.
func (p pair) step(n int, next func(int) int) (string, Move) {
	p.t.Helper()
	k := key(next)
	if next(60) < 15+30*(n/50%2) {
		return k, p.remove(k)
	}
	return k, p.insert(k)
}

func TestLongRuns(t *testing.T) {
	for seed := range uint64(80) {
		next := some(seed)
		p := newPair(t, 2+next(6))
		for n := range 200 {
			p.step(n, next)
			if next(15) == 0 {
				p.agree([]string{key(next), key(next), key(next), ""})
			}
		}
		p.agree([]string{key(next), key(next), key(next), ""})
	}
}

// TestGreatFans: leaves of all fans, that fill and part, and go again.
func TestGreatFans(t *testing.T) {
	for fan := 2; fan <= api.MaxFan; fan++ {
		p, next := newPair(t, fan), some(uint64(fan))
		for range 600 {
			p.insert(strconv.Itoa(next(900)))
		}
		p.agree([]string{"", "2", "500", "77"})
		for range 3000 {
			p.remove(strconv.Itoa(next(900)))
		}
		p.agree([]string{"", "2", "500", "77"})
	}
}

// TestManyKeys: upwards, downwards and crosswise, and all away again.
func TestManyKeys(t *testing.T) {
	const n = 1 << 14
	text := func(i int) string { return strconv.Itoa(n + i%n) } // of as many digits each
	for _, factor := range []int{1, n - 1, 0x9e37} {            // odd ones keep all apart
		x := made(t, 2)
		for i := range n {
			if _, _, err := x.Insert(text(i * factor)); err != api.OK {
				t.Fatal(i, err)
			}
		}
		keys, leaves := x.Range("", "")
		if x.Len() != n || len(keys) != n || !slices.IsSorted(keys) || !slices.Equal(leaves, x.All()) {
			t.Fatal(x.Len(), len(keys), len(leaves))
		}
		for i := range n {
			if _, _, err := x.Remove(text(5 * i * factor)); err != api.OK {
				t.Fatal(i, err)
			}
		}
		if x.Len() != 0 || len(x.All()) != 1 {
			t.Fatal(x.Len(), x.All())
		}
	}
}

// told is a range, and the leaves at which whoever read it is found.
type told struct {
	from, to string
	leaves   map[int]bool
}

// read is a range and what is told of it now.
func (p pair) read(from, to string) told {
	r := told{from, to, map[int]bool{}}
	_, leaves := p.x.Range(from, to)
	for _, leaf := range leaves {
		r.leaves[leaf] = true
	}
	return r
}

// TestInsertsAreMet is P10.4: whoever keeps the leaves that Range told, and goes
// after each Move from one of them, meets each key that comes into the range.
func TestInsertsAreMet(t *testing.T) {
	met := 0
	for seed := range uint64(150) {
		next := some(seed + 7000)
		p := newPair(t, 2+next(5))
		var reads []told
		for n := range 250 {
			if next(10) == 0 {
				reads = append(reads, p.read(key(next), key(next)))
			}
			before := p.x.Len()
			k, m := p.step(n, next)
			for _, r := range reads {
				if r.leaves[m.From] {
					r.leaves[m.To] = true
				}
				if p.x.Len() <= before || k < r.from || r.to != "" && r.to <= k {
					continue
				}
				met++
				if at := p.x.Of(k); !r.leaves[at] {
					t.Fatalf("%.9q came into leaf %d, and who read from %.9q below %.9q is at %v", k, at, r.from, r.to, r.leaves)
				}
			}
		}
	}
	if met < 10000 {
		t.Errorf("only %d keys came into a range that was read", met)
	}
}
