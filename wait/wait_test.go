package wait

import (
	"math"
	"slices"
	"testing"
)

type edges = [][2]int

// tells fails unless just those knots, that victim and those free nodes are
// told. No victim is wanted where there is no knot.
func tells(t *testing.T, l edges, knots [][]int, victim int, free []int) {
	t.Helper()
	if got := Circles(l); !slices.EqualFunc(got, knots, slices.Equal) {
		t.Errorf("Circles(%v): %v, wanted %v", l, got, knots)
	}
	if got, ok := Victim(l); got != victim || ok != (len(knots) > 0) {
		t.Errorf("Victim(%v): %d, %t, wanted %d, %t", l, got, ok, victim, len(knots) > 0)
	}
	if got := Free(l); !slices.Equal(got, free) {
		t.Errorf("Free(%v): %v, wanted %v", l, got, free)
	}
}

func TestExample(t *testing.T) {
	tells(t, edges{{1, 2}, {2, 1}, {3, 2}}, [][]int{{1, 2}}, 2, nil)
}

func TestNoEdge(t *testing.T) {
	tells(t, nil, nil, 0, nil)
	tells(t, edges{}, nil, 0, nil)
	tells(t, make(edges, 0, 4), nil, 0, nil)
}

func TestNoKnot(t *testing.T) {
	tells(t, edges{{1, 2}}, nil, 0, []int{2})
	tells(t, edges{{2, 1}}, nil, 0, []int{1})
	tells(t, edges{{1, 2}, {2, 3}, {3, 4}}, nil, 0, []int{4})
	tells(t, edges{{4, 3}, {3, 2}, {2, 1}}, nil, 0, []int{1})
	tells(t, edges{{1, 2}, {1, 3}, {2, 4}, {3, 4}}, nil, 0, []int{4})                 // two ways to one
	tells(t, edges{{1, 2}, {1, 3}, {1, 4}, {2, 3}, {2, 4}, {3, 4}}, nil, 0, []int{4}) // long ways and short ones
	tells(t, edges{{3, 4}, {2, 4}, {2, 3}, {1, 4}, {1, 3}, {1, 2}}, nil, 0, []int{4})
	tells(t, edges{{5, 9}, {5, 1}, {2, 7}}, nil, 0, []int{1, 7, 9})
	tells(t, edges{{1, 3}, {2, 1}, {3, 4}, {2, 4}}, nil, 0, []int{4}) // a later walk comes to where one was
}

// TestItself: one node with an edge to itself is a knot, one that is only led to
// or only leads is none.
func TestItself(t *testing.T) {
	tells(t, edges{{5, 5}}, [][]int{{5}}, 5, nil)
	tells(t, edges{{0, 0}}, [][]int{{0}}, 0, nil)
	tells(t, edges{{5, 5}, {5, 6}}, [][]int{{5}}, 5, []int{6})
	tells(t, edges{{4, 5}, {5, 5}}, [][]int{{5}}, 5, nil)
	tells(t, edges{{4, 4}, {4, 5}, {5, 5}, {5, 6}, {6, 6}}, [][]int{{4}, {5}, {6}}, 6, nil)
	tells(t, edges{{1, 2}, {2, 2}, {2, 1}}, [][]int{{1, 2}}, 2, nil) // part of a greater one
	tells(t, edges{{1, 1}, {1, 2}, {2, 1}}, [][]int{{1, 2}}, 2, nil)
	tells(t, edges{{3, 4}, {4, 3}, {4, 9}, {9, 9}}, [][]int{{3, 4}, {9}}, 9, nil)
}

// TestTwice: an edge that stands again tells nothing more.
func TestTwice(t *testing.T) {
	tells(t, edges{{1, 2}, {1, 2}}, nil, 0, []int{2})
	tells(t, edges{{1, 2}, {3, 2}, {1, 2}, {1, 2}}, nil, 0, []int{2})
	tells(t, edges{{5, 5}, {5, 5}}, [][]int{{5}}, 5, nil)
	tells(t, edges{{1, 2}, {2, 1}, {1, 2}, {2, 1}}, [][]int{{1, 2}}, 2, nil)
	tells(t, edges{{2, 3}, {2, 3}, {3, 1}, {3, 1}, {1, 4}}, nil, 0, []int{4})
}

func TestOneKnot(t *testing.T) {
	tells(t, edges{{1, 2}, {2, 1}}, [][]int{{1, 2}}, 2, nil)
	tells(t, edges{{2, 1}, {1, 2}}, [][]int{{1, 2}}, 2, nil)
	tells(t, edges{{3, 1}, {1, 2}, {2, 3}}, [][]int{{1, 2, 3}}, 3, nil)
	tells(t, edges{{1, 3}, {3, 2}, {2, 1}}, [][]int{{1, 2, 3}}, 3, nil)
	tells(t, edges{{1, 2}, {2, 3}, {3, 4}, {4, 2}}, [][]int{{2, 3, 4}}, 4, nil)           // a tail
	tells(t, edges{{9, 2}, {2, 3}, {3, 2}, {3, 8}, {8, 7}}, [][]int{{2, 3}}, 3, []int{7}) // greater ones beside it are no victims
	tells(t, edges{{1, 2}, {2, 3}, {3, 4}, {4, 5}, {5, 3}, {4, 1}}, [][]int{{1, 2, 3, 4, 5}}, 5, nil)
	tells(t, edges{{1, 2}, {2, 3}, {3, 4}, {4, 5}, {4, 1}, {5, 3}}, [][]int{{1, 2, 3, 4, 5}}, 5, nil)
}

// TestSharedNode: two circles that share a node are one knot, and so are many.
func TestSharedNode(t *testing.T) {
	tells(t, edges{{1, 2}, {2, 1}, {2, 3}, {3, 2}}, [][]int{{1, 2, 3}}, 3, nil)
	tells(t, edges{{1, 5}, {5, 1}, {5, 9}, {9, 5}, {5, 3}, {3, 5}}, [][]int{{1, 3, 5, 9}}, 9, nil)
	tells(t, edges{{1, 2}, {2, 3}, {3, 1}, {3, 4}, {4, 5}, {5, 3}}, [][]int{{1, 2, 3, 4, 5}}, 5, nil)
	tells(t, edges{{1, 2}, {2, 3}, {3, 4}, {4, 1}, {2, 1}, {4, 3}}, [][]int{{1, 2, 3, 4}}, 4, nil) // they share edges
}

func TestSeveralKnots(t *testing.T) {
	tells(t, edges{{1, 2}, {2, 1}, {3, 4}, {4, 3}}, [][]int{{1, 2}, {3, 4}}, 4, nil)
	tells(t, edges{{3, 4}, {4, 3}, {1, 2}, {2, 1}}, [][]int{{1, 2}, {3, 4}}, 4, nil)
	tells(t, edges{{1, 2}, {2, 1}, {2, 3}, {3, 4}, {4, 3}}, [][]int{{1, 2}, {3, 4}}, 4, nil) // from one to the other
	tells(t, edges{{1, 2}, {2, 1}, {4, 1}, {3, 4}, {4, 3}}, [][]int{{1, 2}, {3, 4}}, 4, nil) // and back
	tells(t, edges{{1, 2}, {2, 1}, {2, 5}, {5, 6}, {6, 3}, {3, 4}, {4, 3}, {4, 9}}, [][]int{{1, 2}, {3, 4}}, 4, []int{9})
	tells(t, edges{{7, 1}, {7, 3}, {1, 2}, {2, 1}, {3, 4}, {4, 3}}, [][]int{{1, 2}, {3, 4}}, 4, nil) // one that waits for both
	// The greatest node is not in the knot that is told last, nor in the one of most nodes.
	tells(t, edges{{1, 9}, {9, 1}, {2, 3}, {3, 4}, {4, 2}, {5, 5}}, [][]int{{1, 9}, {2, 3, 4}, {5}}, 9, nil)
	tells(t, edges{{2, 3}, {3, 2}, {8, 8}, {1, 7}, {7, 1}}, [][]int{{1, 7}, {2, 3}, {8}}, 8, nil)
	// By their least nodes, not as numbers alternate within them.
	tells(t, edges{{6, 2}, {2, 6}, {1, 5}, {5, 1}, {3, 4}, {4, 3}}, [][]int{{1, 5}, {2, 6}, {3, 4}}, 6, nil)
	tells(t, edges{{10, 9}, {9, 10}, {2, 100}, {100, 2}}, [][]int{{2, 100}, {9, 10}}, 100, nil)
}

func TestManyAtOneNode(t *testing.T) {
	var out, in, both edges
	var knot, free []int
	for i := 2; i <= 500; i++ {
		out = append(out, [2]int{1, i})
		in = append(in, [2]int{i, 1})
		both = append(both, [2]int{1, i}, [2]int{i, 1})
		free = append(free, i)
	}
	knot = append([]int{1}, free...)
	tells(t, out, nil, 0, free)
	tells(t, in, nil, 0, []int{1})
	tells(t, both, [][]int{knot}, 500, nil)
}

func TestUnusualNodes(t *testing.T) {
	const least, most = math.MinInt, math.MaxInt
	tells(t, edges{{0, 0}, {0, -1}}, [][]int{{0}}, 0, []int{-1})
	tells(t, edges{{-1, -2}, {-2, -1}}, [][]int{{-2, -1}}, -1, nil)
	tells(t, edges{{-5, -7}, {-7, -5}, {0, -5}, {-5, 3}}, [][]int{{-7, -5}}, -5, []int{3})
	tells(t, edges{{0, -1}, {-1, 1}, {1, 0}}, [][]int{{-1, 0, 1}}, 1, nil)
	tells(t, edges{{least, most}}, nil, 0, []int{most})
	tells(t, edges{{most, least}}, nil, 0, []int{least})
	tells(t, edges{{least, most}, {most, least}}, [][]int{{least, most}}, most, nil)
	tells(t, edges{{least, least}}, [][]int{{least}}, least, nil)
	tells(t, edges{{most, most}}, [][]int{{most}}, most, nil)
	tells(t, edges{{most, most}, {least, least}, {0, 0}}, [][]int{{least}, {0}, {most}}, most, nil)
	tells(t, edges{{most - 1, most}, {most, most - 1}, {least, least + 1}, {least + 1, least}},
		[][]int{{least, least + 1}, {most - 1, most}}, most, nil)
	tells(t, edges{{0, most}, {0, least}, {0, -1}, {0, 1 << 32}}, nil, 0, []int{least, -1, 1 << 32, most})
}

// TestLongLists: without a knot and with one, in the order of the walk, against
// it, and crosswise.
func TestLongLists(t *testing.T) {
	const n = 1 << 18
	chain := make(edges, 0, n+1)
	all := make([]int, 0, n+1)
	for i := range n {
		chain = append(chain, [2]int{i, i + 1})
		all = append(all, i)
	}
	all = append(all, n)
	long(t, chain, nil, []int{n})
	long(t, append(chain, [2]int{n, 0}), [][]int{all}, nil)
	long(t, append(chain, [2]int{n, n}), [][]int{{n}}, nil)
	slices.Reverse(chain)
	long(t, chain, nil, []int{n})
	for i := range chain {
		chain[i] = [2]int{chain[i][1], chain[i][0]}
	}
	long(t, chain, nil, []int{0})
	long(t, append(chain, [2]int{0, n}), [][]int{all}, nil)
	for i := range chain { // an odd factor keeps all apart
		chain[i] = [2]int{i * 0x9e3779b1 % n, (i + 1) * 0x9e3779b1 % n}
	}
	long(t, chain, [][]int{all[:n]}, nil)
	long(t, chain[1:], nil, []int{0})
}

// long is tells, but does not write out what is long. Its victim is the greatest
// node of the last one of the knots that are wanted.
func long(t *testing.T, l edges, knots [][]int, free []int) {
	t.Helper()
	if got := Circles(l); !slices.EqualFunc(got, knots, slices.Equal) {
		t.Errorf("%d edges: %d knots, wanted %d", len(l), len(got), len(knots))
	}
	want := 0
	if len(knots) > 0 {
		last := knots[len(knots)-1]
		want = last[len(last)-1]
	}
	if got, ok := Victim(l); got != want || ok != (len(knots) > 0) {
		t.Errorf("%d edges: victim %d, %t, wanted %d", len(l), got, ok, want)
	}
	if got := Free(l); !slices.Equal(got, free) {
		t.Errorf("%d edges: %d free, wanted %d", len(l), len(got), len(free))
	}
}

func TestManyKnots(t *testing.T) {
	var l edges
	var want [][]int
	for i := 1 << 16; i >= 0; i-- {
		l = append(l, [2]int{2 * i, 2*i + 1}, [2]int{2*i + 1, 2 * i}, [2]int{2 * i, 2 * (i * 7 % (i + 1))})
		want = append(want, []int{2 * i, 2*i + 1})
	}
	slices.Reverse(want)
	long(t, l, want, nil)
}

// TestManyEdges: each node waits for all behind it, and in the end for all.
func TestManyEdges(t *testing.T) {
	const n = 700
	var l edges
	var all []int
	for i := range n {
		all = append(all, i)
		for j := i + 1; j < n; j++ {
			l = append(l, [2]int{i, j})
		}
	}
	long(t, l, nil, []int{n - 1})
	long(t, append(l, [2]int{n - 1, 1}), [][]int{all[1:]}, nil)
	for i := range n {
		for j := range i {
			l = append(l, [2]int{i, j})
		}
	}
	long(t, l, [][]int{all}, nil)
}

// TestHandedIn: what is handed in stays as it was, its spare room too, and so
// does what was told when it is changed.
func TestHandedIn(t *testing.T) {
	room := edges{{9, 9}, {3, 1}, {1, 2}, {1, 2}, {2, 3}, {0, 3}, {7, 7}, {1, 5}, {-4, -5}, {-6, -6}}
	was := slices.Clone(room)
	l := room[1:8]
	knots, free := Circles(l), Free(l)
	if v, ok := Victim(l); v != 7 || !ok {
		t.Error(v, ok)
	}
	if !slices.Equal(room, was) {
		t.Errorf("it wrote over what it was given: %v", room)
	}
	for i := range room {
		room[i] = [2]int{8, 8}
	}
	if !slices.EqualFunc(knots, [][]int{{1, 2, 3}, {7}}, slices.Equal) || !slices.Equal(free, []int{5}) {
		t.Error("what was told hangs on what was given", knots, free)
	}
}

// spoil writes over a list, its spare room too.
func spoil[T any](l []T, with T) {
	l = l[:cap(l)]
	for i := range l {
		l[i] = with
	}
}

// TestNewMemory: what was told may be changed; the others stay, and so do later
// answers.
func TestNewMemory(t *testing.T) {
	l := edges{{1, 2}, {2, 3}, {3, 1}, {4, 4}, {5, 6}, {6, 5}, {6, 7}, {6, 8}, {4, 9}}
	want := [][]int{{1, 2, 3}, {4}, {5, 6}}
	for i := range want {
		knots, again := Circles(l), Circles(l)
		spoil(knots[i], -77)
		for k := range want {
			if k != i && !slices.Equal(knots[k], want[k]) {
				t.Errorf("knot %d shares its memory with knot %d: %v", i, k, knots)
			}
		}
		spoil(knots, nil)
		if !slices.EqualFunc(again, want, slices.Equal) {
			t.Error("two answers share their memory", again)
		}
	}
	free := Free(l)
	spoil(Free(l), -77)
	if !slices.Equal(free, []int{7, 8, 9}) {
		t.Error("two answers share their memory", free)
	}
	tells(t, l, want, 6, []int{7, 8, 9})
}
