package leaf

import (
	"math"
	"slices"
	"strings"
	"testing"

	"livery/api"
)

// made is leaves of that fan with those keys, put in one behind the other.
func made(t *testing.T, fan int, keys ...string) *Leaves {
	t.Helper()
	x, err := New(fan)
	if x == nil || err != api.OK {
		t.Fatalf("New(%d): %v, %d", fan, x, err)
	}
	for _, k := range keys {
		if _, _, err := x.Insert(k); err != api.OK {
			t.Fatalf("Insert(%.9q): %d", k, err)
		}
	}
	return x
}

// insert fails unless that is told.
func insert(t *testing.T, x *Leaves, k string, leaf int, m Move) {
	t.Helper()
	if n, got, err := x.Insert(k); n != leaf || got != m || err != api.OK {
		t.Fatalf("Insert(%.9q): %d, %v, %d, wanted %d, %v", k, n, got, err, leaf, m)
	}
	if !x.Has(k) || x.Of(k) != leaf || !slices.Contains(x.Keys(leaf), k) {
		t.Fatalf("%.9q was put into leaf %d, but that has %q", k, leaf, x.Keys(leaf))
	}
}

// remove fails unless that is told.
func remove(t *testing.T, x *Leaves, k string, leaf int, m Move) {
	t.Helper()
	if n, got, err := x.Remove(k); n != leaf || got != m || err != api.OK {
		t.Fatalf("Remove(%.9q): %d, %v, %d, wanted %d, %v", k, n, got, err, leaf, m)
	}
	if x.Has(k) || slices.Contains(x.Keys(leaf), k) {
		t.Fatalf("%.9q was removed, but leaf %d has %q", k, leaf, x.Keys(leaf))
	}
}

// refused fails unless the error is that one and nothing else is told.
func refused(t *testing.T, want api.Errno) func(leaf int, m Move, e api.Errno) {
	return func(leaf int, m Move, e api.Errno) {
		t.Helper()
		if leaf != 0 || m != (Move{}) || e != want {
			t.Fatalf("%d, %v, %d, wanted the error %d alone", leaf, m, e, want)
		}
	}
}

// sheet is a leaf and its keys, as tests want them.
type sheet struct {
	number int
	keys   []string
}

// stand fails unless just those leaves with those keys stand, in that order.
func stand(t *testing.T, x *Leaves, want ...sheet) {
	t.Helper()
	var keys []string
	var leaves []int
	for _, s := range want {
		keys, leaves = append(keys, s.keys...), append(leaves, s.number)
		if got := x.Keys(s.number); !slices.Equal(got, s.keys) {
			t.Fatalf("Keys(%d): %q, wanted %q", s.number, got, s.keys)
		}
		for _, k := range s.keys {
			if !x.Has(k) || x.Of(k) != s.number {
				t.Fatalf("%q: there %t, of leaf %d, wanted %d", k, x.Has(k), x.Of(k), s.number)
			}
		}
	}
	if got := x.All(); !slices.Equal(got, leaves) {
		t.Fatalf("All: %v, wanted %v", got, leaves)
	}
	if x.Len() != len(keys) {
		t.Fatalf("Len: %d, wanted %d", x.Len(), len(keys))
	}
	ranged(t, x, "", "", keys, leaves)
}

func ranged(t *testing.T, x *Leaves, from, to string, keys []string, leaves []int) {
	t.Helper()
	if k, l := x.Range(from, to); !slices.Equal(k, keys) || !slices.Equal(l, leaves) {
		t.Fatalf("Range(%q, %q): %q, %v, wanted %q, %v", from, to, k, l, keys, leaves)
	}
}

// of fails unless each of the keys, there or not, has that leaf.
func of(t *testing.T, x *Leaves, leaf int, keys ...string) {
	t.Helper()
	for _, k := range keys {
		if got := x.Of(k); got != leaf {
			t.Fatalf("Of(%.9q): %d, wanted %d", k, got, leaf)
		}
	}
}

// split is a list of one letter texts.
func split(s string) []string { return strings.Split(s, "") }

func TestExample(t *testing.T) {
	x := made(t, 2)
	insert(t, x, "a", 1, Move{})
	insert(t, x, "b", 1, Move{})
	insert(t, x, "c", 2, Move{1, 2})
	stand(t, x, sheet{1, split("ab")}, sheet{2, split("c")})
}

func TestNew(t *testing.T) {
	for _, fan := range []int{1, 0, -1, -2, -3, api.MaxFan + 1, 1000, 1<<8 + 2, 1<<16 + 2, 1<<32 + 2, math.MaxInt, math.MinInt, math.MinInt + 2} {
		if x, err := New(fan); x != nil || err != api.ErrArg {
			t.Errorf("New(%d): %v, %d", fan, x, err)
		}
	}
	for fan := 2; fan <= api.MaxFan; fan++ {
		x := made(t, fan)
		stand(t, x, sheet{1, nil})
		of(t, x, 1, "", "a", "\xff\xff", strings.Repeat("\xff", 2*api.MaxKey))
		refused(t, api.ErrNone)(x.Remove(""))
		refused(t, api.ErrNone)(x.Remove("a"))
		ranged(t, x, "b", "a", nil, nil)
		ranged(t, x, "a", "b", nil, []int{1})
		insert(t, x, "a", 1, Move{})
		stand(t, made(t, fan), sheet{1, nil}) // two are not one
	}
}

// TestFan: a leaf has as many keys as it may ahead of the first one that is too
// many, whatever their order; the lower half, and the odd one, stay.
func TestFan(t *testing.T) {
	for fan := 2; fan <= api.MaxFan; fan++ {
		var keys []string
		for i := range fan + 1 {
			keys = append(keys, string([]byte{byte(3 * i)}))
		}
		stay := fan/2 + 1 // of fan + 1 keys: up to the place (fan + 2) / 2
		for late := range keys {
			x := made(t, fan, slices.Delete(slices.Clone(keys), late, late+1)...)
			if got := x.All(); !slices.Equal(got, []int{1}) {
				t.Fatalf("fan %d: leaves %v", fan, got)
			}
			leaf := 1
			if late >= stay {
				leaf = 2
			}
			insert(t, x, keys[late], leaf, Move{1, 2})
			stand(t, x, sheet{1, keys[:stay]}, sheet{2, keys[stay:]})
		}
	}
}

func TestInsertErrors(t *testing.T) {
	long := strings.Repeat("k", api.MaxKey)
	x := made(t, 2, "a", "b", "c")
	for _, k := range []string{long + "k", long + "\x00", strings.Repeat("\x00", api.MaxKey+1), strings.Repeat("k", 1<<20), strings.Repeat("k", 1<<16)} {
		refused(t, api.ErrLong)(x.Insert(k))
		refused(t, api.ErrNone)(x.Remove(k))
	}
	for _, k := range split("abc") {
		refused(t, api.ErrTwice)(x.Insert(k))
	}
	stand(t, x, sheet{1, split("ab")}, sheet{2, split("c")}) // with an error nothing is done
	insert(t, x, long, 2, Move{})
	refused(t, api.ErrTwice)(x.Insert(long))
	refused(t, api.ErrLong)(x.Insert(long + "k"))
	stand(t, x, sheet{1, split("ab")}, sheet{2, []string{"c", long}})
	remove(t, x, long, 2, Move{})
	refused(t, api.ErrNone)(x.Remove(long))
	insert(t, x, long, 2, Move{}) // what is gone may come again
	insert(t, x, "d", 2, Move{2, 3})
	stand(t, x, sheet{1, split("ab")}, sheet{2, split("cd")}, sheet{3, []string{long}}) // no number was lost
}

func TestRemoveErrors(t *testing.T) {
	x := made(t, 2, "b", "d", "f")
	for _, k := range []string{"", "a", "c", "e", "g", "b\x00", "bb", "B"} {
		refused(t, api.ErrNone)(x.Remove(k))
	}
	stand(t, x, sheet{1, split("bd")}, sheet{2, split("f")})
	remove(t, x, "d", 1, Move{})
	refused(t, api.ErrNone)(x.Remove("d"))
	stand(t, x, sheet{1, split("b")}, sheet{2, split("f")})
}

// TestAnyBytes: keys are any bytes, and stand by them.
func TestAnyBytes(t *testing.T) {
	keys := []string{"", "\x00", "\x00\x00", "\x00\x01", "\x00\xff", "\x01", "A", "B", "a", "a\x00", "aa", "b", "\x7f", "\x80", "é", "\xc3\xff", "\xfe", "\xff", "\xff\x00", "\xff\xff"}
	up := made(t, api.MaxFan, keys...)
	stand(t, up, sheet{1, keys})
	down := slices.Clone(keys)
	slices.Reverse(down)
	stand(t, made(t, api.MaxFan, down...), sheet{1, keys})
	for _, order := range [][]string{keys, down} {
		x := made(t, 2, order...)
		got, _ := x.Range("", "")
		if !slices.Equal(got, keys) {
			t.Fatalf("%q", got)
		}
		for _, k := range order {
			if _, _, err := x.Remove(k); err != api.OK || x.Has(k) {
				t.Fatalf("Remove(%q): %d", k, err)
			}
		}
		if x.Len() != 0 || len(x.All()) != 1 {
			t.Fatal(x.Len(), x.All())
		}
	}
}

// TestBoundsStay: a bound is a leaf's first key when it was made, also when that
// key is there no longer, and whatever comes ahead of the leaf.
func TestBoundsStay(t *testing.T) {
	x := made(t, 3, split("bdmp")...)
	stand(t, x, sheet{1, split("bd")}, sheet{2, split("mp")})
	remove(t, x, "m", 2, Move{})
	of(t, x, 2, "m", "ma", "o", "p", "z", "\xff")
	of(t, x, 1, "", "a", "d", "l", "lz", "l\xff\xff")
	insert(t, x, "n", 2, Move{})
	insert(t, x, "l", 1, Move{})
	stand(t, x, sheet{1, split("bdl")}, sheet{2, split("np")})
	insert(t, x, "c", 1, Move{1, 3}) // b c | d l
	stand(t, x, sheet{1, split("bc")}, sheet{3, split("dl")}, sheet{2, split("np")})
	of(t, x, 3, "d", "lz", "l\xff")
	of(t, x, 2, "m")
	remove(t, x, "d", 3, Move{})
	remove(t, x, "n", 2, Move{})
	insert(t, x, "m", 2, Move{})
	insert(t, x, "f", 3, Move{})
	insert(t, x, "d", 3, Move{})
	stand(t, x, sheet{1, split("bc")}, sheet{3, split("dfl")}, sheet{2, split("mp")})
}

// TestLeavesGo: whose last key goes is gone; what it had is the one's ahead of it.
func TestLeavesGo(t *testing.T) {
	x := made(t, 2, split("abcdef")...)
	stand(t, x, sheet{1, split("ab")}, sheet{2, split("cd")}, sheet{3, split("ef")})
	remove(t, x, "c", 2, Move{})
	remove(t, x, "d", 2, Move{2, 1}) // in the middle
	stand(t, x, sheet{1, split("ab")}, sheet{3, split("ef")})
	of(t, x, 1, "a", "c", "d", "dz")
	of(t, x, 3, "e", "z")
	insert(t, x, "c", 4, Move{1, 4}) // no number comes again
	stand(t, x, sheet{1, split("ab")}, sheet{4, split("c")}, sheet{3, split("ef")})
	remove(t, x, "f", 3, Move{})
	remove(t, x, "e", 3, Move{3, 4}) // the last one
	stand(t, x, sheet{1, split("ab")}, sheet{4, split("c")})
	of(t, x, 4, "c", "e", "z")
	insert(t, x, "z", 4, Move{})
	insert(t, x, "e", 4, Move{4, 5})
	stand(t, x, sheet{1, split("ab")}, sheet{4, split("ce")}, sheet{5, split("z")})
	if len(x.Keys(2))+len(x.Keys(3)) != 0 {
		t.Error(x.Keys(2), x.Keys(3))
	}
}

// TestFirstLeafGoes: the one behind it is the first one, without a bound.
func TestFirstLeafGoes(t *testing.T) {
	x := made(t, 2, split("abcde")...)
	remove(t, x, "a", 1, Move{})
	remove(t, x, "b", 1, Move{1, 2})
	stand(t, x, sheet{2, split("cd")}, sheet{3, split("e")})
	of(t, x, 2, "", "a", "b", "c", "d")
	ranged(t, x, "", "a", nil, []int{2})
	ranged(t, x, "a", "c", nil, []int{2})
	ranged(t, x, "", "d", split("c"), []int{2})
	remove(t, x, "c", 2, Move{})
	insert(t, x, "a", 2, Move{})
	insert(t, x, "b", 2, Move{2, 4})
	stand(t, x, sheet{2, split("ab")}, sheet{4, split("d")}, sheet{3, split("e")})
	of(t, x, 2, "", "b", "c", "cz")
	remove(t, x, "b", 2, Move{})
	remove(t, x, "a", 2, Move{2, 4})
	remove(t, x, "d", 4, Move{4, 3})
	stand(t, x, sheet{3, split("e")})
	of(t, x, 3, "", "a", "z")
}

// TestOnlyLeafStays: it goes on without keys, by its number.
func TestOnlyLeafStays(t *testing.T) {
	x := made(t, 2, "k")
	remove(t, x, "k", 1, Move{})
	stand(t, x, sheet{1, nil})
	insert(t, x, "", 1, Move{})
	remove(t, x, "", 1, Move{})
	for _, k := range split("abc") {
		x.Insert(k)
	}
	remove(t, x, "c", 2, Move{2, 1})
	remove(t, x, "a", 1, Move{})
	remove(t, x, "b", 1, Move{})
	stand(t, x, sheet{1, nil})
	for _, k := range split("abc") {
		x.Insert(k)
	}
	stand(t, x, sheet{1, split("ab")}, sheet{3, split("c")})
	remove(t, x, "b", 1, Move{})
	remove(t, x, "a", 1, Move{1, 3})
	remove(t, x, "c", 3, Move{})
	stand(t, x, sheet{3, nil})
	of(t, x, 3, "", "a", "c", "z")
	insert(t, x, "a", 3, Move{})
	insert(t, x, "b", 3, Move{})
	insert(t, x, "", 3, Move{3, 4})
	stand(t, x, sheet{3, []string{"", "a"}}, sheet{4, split("b")})
}

// TestRangeEdges: keys are told from from on and below to; of leaves also the one
// in which to would stand.
func TestRangeEdges(t *testing.T) {
	x := made(t, 2, split("bdfhjl")...)
	stand(t, x, sheet{1, split("bd")}, sheet{2, split("fh")}, sheet{3, split("jl")})
	for _, y := range []struct {
		from, to, keys string
		leaves         []int
	}{
		{"", "", "bdfhjl", []int{1, 2, 3}},
		{"", "\x00", "", []int{1}},
		{"", "b", "", []int{1}},
		{"", "c", "b", []int{1}},
		{"a", "e", "bd", []int{1}},
		{"b", "d", "b", []int{1}},
		{"b", "d\x00", "bd", []int{1}},
		{"b\x00", "d\x00", "d", []int{1}},
		{"c", "c\x00", "", []int{1}},  // between two keys of a leaf
		{"d\x00", "e", "", []int{1}},  // between two leaves
		{"b", "f", "bd", []int{1, 2}}, // to is a bound
		{"d\x00", "f", "", []int{1, 2}},
		{"f", "g", "f", []int{2}}, // from is a bound
		{"f", "j", "fh", []int{2, 3}},
		{"g", "i", "h", []int{2}},
		{"g", "k", "hj", []int{2, 3}},
		{"c", "k", "dfhj", []int{1, 2, 3}},
		{"l", "m", "l", []int{3}},
		{"l\x00", "m", "", []int{3}},
		{"a", "z", "bdfhjl", []int{1, 2, 3}},
		{"f", "", "fhjl", []int{2, 3}},
		{"g", "", "hjl", []int{2, 3}},
		{"l", "", "l", []int{3}},
		{"z", "", "", []int{3}},
		{"f", "f", "", nil},
		{"f\x00", "f", "", nil},
		{"z", "a", "", nil},
		{"z", "z", "", nil},
		{"\x00", "\x00", "", nil},
	} {
		var keys []string
		if y.keys != "" {
			keys = split(y.keys)
		}
		ranged(t, x, y.from, y.to, keys, y.leaves)
	}
	remove(t, x, "f", 2, Move{}) // a bound whose key is gone
	ranged(t, x, "c", "f", split("d"), []int{1, 2})
	ranged(t, x, "f", "h", nil, []int{2})
	long := strings.Repeat("z", 2*api.MaxKey)
	ranged(t, x, "j", long, split("jl"), []int{3})
	ranged(t, x, long, "", nil, []int{3})
	ranged(t, x, long, long+"z", nil, []int{3})
	ranged(t, x, long, "z", nil, nil)
}

// TestMovesLead is P10.4: by the Moves a range that was read goes on to the leaves
// into which its keys come.
func TestMovesLead(t *testing.T) {
	x := made(t, 2, split("bdfh")...)
	ranged(t, x, "g", "z", split("h"), []int{2})
	remove(t, x, "f", 2, Move{})
	remove(t, x, "h", 2, Move{2, 1})
	insert(t, x, "g", 3, Move{1, 3})
	stand(t, x, sheet{1, split("bd")}, sheet{3, split("g")})
	ranged(t, x, "", "b", nil, []int{1})
	remove(t, x, "d", 1, Move{})
	remove(t, x, "b", 1, Move{1, 3})
	insert(t, x, "a", 3, Move{})
	ranged(t, x, "h", "i", nil, []int{3})
	insert(t, x, "hh", 4, Move{3, 4})
}

func TestNoSuchLeaf(t *testing.T) {
	x := made(t, 2, split("abcde")...)
	remove(t, x, "c", 2, Move{})
	remove(t, x, "d", 2, Move{2, 1})
	for _, leaf := range []int{0, 2, 4, -1, -2, -3, 1 << 8, 1<<8 + 1, 1<<16 + 1, 1<<32 + 1, math.MaxInt, math.MinInt, math.MinInt + 1} {
		if got := x.Keys(leaf); len(got) != 0 {
			t.Errorf("Keys(%d): %q", leaf, got)
		}
	}
	stand(t, x, sheet{1, split("ab")}, sheet{3, split("e")})
}

// spoil changes all of a list, its spare room included.
func spoil[T any](l []T, by T) {
	l = l[:cap(l)]
	for i := range l {
		l[i] = by
	}
}

func TestListsAreTheCallers(t *testing.T) {
	x := made(t, 4, split("abcdefghijklmnop")...)
	for _, k := range split("bdfhn") {
		x.Remove(k)
	}
	type lists struct {
		keys   [][]string
		leaves [][]int
	}
	told := func() (l lists) {
		for range 2 {
			for _, n := range x.All() {
				l.keys = append(l.keys, x.Keys(n))
			}
			for _, to := range []string{"", "e", "k"} {
				keys, leaves := x.Range("c", to)
				l.keys, l.leaves = append(l.keys, keys), append(l.leaves, leaves)
			}
			l.leaves = append(l.leaves, x.All())
		}
		return l
	}
	same := func(a, b lists, keys, leaves int) {
		t.Helper()
		for i := range a.keys {
			if i != keys && !slices.Equal(a.keys[i], b.keys[i]) {
				t.Fatalf("the keys %q are %q", b.keys[i], a.keys[i])
			}
		}
		for i := range a.leaves {
			if i != leaves && !slices.Equal(a.leaves[i], b.leaves[i]) {
				t.Fatalf("the leaves %v are %v", b.leaves[i], a.leaves[i])
			}
		}
	}
	want := told()
	for i := range want.keys {
		got := told()
		spoil(got.keys[i], "spoilt")
		same(got, want, i, -1)
	}
	for i := range want.leaves {
		got := told()
		spoil(got.leaves[i], -7)
		same(got, want, -1, i)
	}
	same(told(), want, -1, -1)
	old := told()
	for _, k := range split("bdfhacegnqrstuvw") { // what was told stays as it is
		x.Insert(k)
		x.Remove(k)
		x.Insert(k)
	}
	same(old, want, -1, -1)
}

func TestNil(t *testing.T) {
	var x *Leaves
	for _, k := range []string{"", "a", strings.Repeat("k", api.MaxKey+1)} {
		refused(t, api.ErrArg)(x.Insert(k))
		refused(t, api.ErrArg)(x.Remove(k))
		if x.Has(k) || x.Of(k) != 0 {
			t.Errorf("%.9q: %t, %d", k, x.Has(k), x.Of(k))
		}
		ranged(t, x, k, "", nil, nil)
		ranged(t, x, "", k, nil, nil)
		ranged(t, x, k, "b", nil, nil)
	}
	for _, leaf := range []int{0, 1, -1, math.MaxInt, math.MinInt} {
		if len(x.Keys(leaf)) != 0 {
			t.Error(x.Keys(leaf))
		}
	}
	if x.Len() != 0 || len(x.All()) != 0 {
		t.Error(x.Len(), x.All())
	}
}
