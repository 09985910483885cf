package wait

import (
	"math"
	"slices"
)

// The numbers of nodes that have none of their own.
const (
	unmet  = 0
	closed = math.MaxInt // beyond all others, so that it is the least of nothing
)

// walk goes through a graph and finds its knots, as Tarjan does: a node closes
// its knot if nothing that it leads to leads back to a node met ahead of it. It
// keeps its path in a list, not in calls within calls, so that no chain of nodes
// is too long for it.
type walk struct {
	graph
	number []int   // by place: as which one the node was met, from 1 on; or unmet, or closed
	least  []int   // by place: the least number to which the node is known to lead back
	gone   []int   // by place: how many of the node's edges are behind the walk
	met    int     // how many nodes were met
	path   []int   // the places from where the walk began to where it is
	open   []int   // the places that were met and are not closed, the first one first
	knots  [][]int // the knots so far, as nodes
}

func newWalk(g graph) *walk {
	n := len(g.nodes)
	return &walk{graph: g, number: make([]int, n), least: make([]int, n), gone: make([]int, n)}
}

// from walks through all that was not met and to which the root leads.
func (w *walk) from(root int) {
	w.meet(root)
onward:
	for len(w.path) > 0 {
		at := w.path[len(w.path)-1]
		for _, to := range w.ends[at][w.gone[at]:] {
			w.gone[at]++
			if w.number[to] == unmet {
				w.meet(to)
				continue onward
			}
			w.least[at] = min(w.least[at], w.number[to])
		}
		w.leave(at)
	}
}

// meet goes to a place that was not met.
func (w *walk) meet(place int) {
	w.met++
	w.number[place], w.least[place] = w.met, w.met
	w.path = append(w.path, place)
	w.open = append(w.open, place)
}

// leave goes back from the path's end, whose edges are all behind the walk.
func (w *walk) leave(at int) {
	w.path = w.path[:len(w.path)-1]
	if w.least[at] == w.number[at] {
		w.close(at)
		return
	}
	before := w.path[len(w.path)-1] // there is one: no open node has a lesser number than where the walk began
	w.least[before] = min(w.least[before], w.least[at])
}

// close takes from the open places those from the first one of a knot on, and
// keeps them if they are one: a place alone is none but by an edge to itself.
func (w *walk) close(first int) {
	start := len(w.open) - 1
	for w.open[start] != first {
		start--
	}
	members := w.open[start:]
	w.open = w.open[:start]
	for _, place := range members {
		w.number[place] = closed
	}
	if len(members) > 1 || slices.Contains(w.ends[first], first) {
		w.knots = append(w.knots, w.rising(members))
	}
}

// rising is a list of the nodes at those places, in order.
func (w *walk) rising(places []int) []int {
	nodes := make([]int, len(places))
	for i, place := range places {
		nodes[i] = w.nodes[place]
	}
	slices.Sort(nodes)
	return nodes
}
