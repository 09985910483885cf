package wait

import (
	"math"
	"slices"
	"testing"
)

// words is edges as the document's words have them: which node is reached from
// which one, by one edge or more.
type words struct {
	nodes   []int
	reached map[[2]int]bool
}

func said(l edges) words {
	w := words{reached: map[[2]int]bool{}}
	for _, e := range l {
		w.nodes = append(w.nodes, e[0], e[1])
		w.reached[e] = true
	}
	slices.Sort(w.nodes)
	w.nodes = slices.Compact(w.nodes)
	for _, by := range w.nodes {
		for _, a := range w.nodes {
			for _, b := range w.nodes {
				if w.reached[[2]int{a, by}] && w.reached[[2]int{by, b}] {
					w.reached[[2]int{a, b}] = true
				}
			}
		}
	}
	return w
}

// knots goes through the nodes as they rise: the least one of each knot tells
// of all of it.
func (w words) knots() [][]int {
	var out [][]int
	for i, a := range w.nodes {
		var knot []int
		for k, b := range w.nodes {
			if w.reached[[2]int{a, b}] && w.reached[[2]int{b, a}] {
				if k < i {
					knot = nil
					break
				}
				knot = append(knot, b)
			}
		}
		if knot != nil {
			out = append(out, knot)
		}
	}
	return out
}

func (w words) victim() int {
	victim, any := 0, false
	for _, a := range w.nodes {
		if w.reached[[2]int{a, a}] {
			if !any || a > victim {
				victim = a
			}
			any = true
		}
	}
	return victim
}

func (w words) free(l edges) []int {
	var out []int
	for _, a := range w.nodes {
		if !slices.ContainsFunc(l, func(e [2]int) bool { return e[0] == a }) {
			out = append(out, a)
		}
	}
	return out
}

// agrees fails unless all is told as the words have it.
func agrees(t *testing.T, l edges) {
	t.Helper()
	w := said(l)
	tells(t, l, w.knots(), w.victim(), w.free(l))
}

// unties is P7.2: victim by victim, no knot is left in the end, and then there
// is a free node if there is an edge. With all, the edges to a victim go with it,
// otherwise those from it alone.
func unties(t *testing.T, given edges, all bool) {
	t.Helper()
	l := slices.Clone(given)
	for {
		victim, ok := Victim(l)
		if !ok {
			break
		}
		n := len(l)
		l = slices.DeleteFunc(l, func(e [2]int) bool { return e[0] == victim || all && e[1] == victim })
		if len(l) == n {
			t.Fatalf("%v: the victim %d has no edge", l, victim)
		}
	}
	if knots := Circles(l); len(knots) != 0 {
		t.Errorf("%v: without its victims' edges there are knots: %v", given, knots)
	}
	if free := Free(l); len(free) == 0 && len(l) != 0 {
		t.Errorf("%v: without its victims' edges nobody is free", given)
	}
}

// TestAllOfFour goes through all sets of edges of four nodes, the edges both
// ways round.
func TestAllOfFour(t *testing.T) {
	nodes := []int{0, math.MaxInt, -1, math.MinInt}
	for set := range 1 << 16 {
		var l edges
		for i := range 16 {
			if set>>i&1 != 0 {
				l = append(l, [2]int{nodes[i/4], nodes[i%4]})
			}
		}
		agrees(t, l)
		unties(t, l, set%2 == 0)
		slices.Reverse(l)
		agrees(t, l)
		if t.Failed() {
			return
		}
	}
}

// some tells numbers, always the same ones for a seed.
func some(seed int) func(n int) int {
	x := uint64(88172645463325252) + uint64(seed)*0x9e3779b97f4a7c15
	return func(n int) int {
		x ^= x << 13
		x ^= x >> 7
		x ^= x << 17
		return int(x >> 11 % uint64(n))
	}
}

// TestAnyEdges: of a few nodes and of more, with few edges and with many, some
// of them twice, and in any order.
func TestAnyEdges(t *testing.T) {
	for seed := range 1500 {
		next := some(seed)
		nodes := 1 + next(16)
		far := 1 + next(3)*1000003
		var l edges
		for range next(2*nodes + 2) {
			l = append(l, [2]int{(next(nodes) - 3) * far, (next(nodes) - 3) * far})
			if next(5) == 0 {
				l = append(l, l[next(len(l))])
			}
		}
		agrees(t, l)
		unties(t, l, true)
		unties(t, l, false)
		for i := range l {
			k := next(i + 1)
			l[i], l[k] = l[k], l[i]
		}
		agrees(t, l)
		if t.Failed() {
			return
		}
	}
}

// TestVictims: P7.2 where several are told one behind the other.
func TestVictims(t *testing.T) {
	l := edges{{1, 2}, {2, 1}, {2, 3}, {3, 2}, {6, 6}, {3, 7}, {5, 4}, {4, 5}}
	for _, want := range []int{6, 5, 3, 2} {
		victim, ok := Victim(l)
		if victim != want || !ok {
			t.Fatalf("Victim(%v): %d, %t, wanted %d", l, victim, ok, want)
		}
		l = slices.DeleteFunc(l, func(e [2]int) bool { return e[0] == victim })
	}
	tells(t, l, nil, 0, []int{2, 5})
	for _, all := range []bool{false, true} {
		unties(t, edges{{0, 0}}, all)
		unties(t, edges{{1, 2}, {2, 1}, {3, 2}}, all)
		unties(t, edges{{-1, -2}, {-2, -1}, {math.MinInt, 0}, {0, math.MinInt}}, all)
	}
}
