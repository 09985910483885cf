package index

import (
	"math"
	"slices"
	"strings"
	"testing"

	"livery/api"
	"livery/leaf"
)

func of(b uint64) float64 { return math.Float64frombits(b) }

func boolean(n int64) api.Value { return api.Value{Kind: api.Bool, N: n} }

func whole(n int64) api.Value { return api.Value{Kind: api.Int, N: n} }

func point(f float64) api.Value { return api.Value{Kind: api.Float, F: f} }

func text(s string) api.Value { return api.Value{Kind: api.Text, S: s} }

func nan() api.Value { return point(of(0x7ff8000000000000)) }

// rising are good values, each behind the one ahead of it.
func rising() []api.Value {
	return []api.Value{
		{}, boolean(0), boolean(1),
		whole(math.MinInt64), whole(-256), whole(-1), whole(0), whole(1), whole(256), whole(math.MaxInt64),
		point(math.Inf(-1)), point(-1), point(-math.SmallestNonzeroFloat64), point(0), point(1), point(math.Inf(1)), nan(),
		text(""), text("\x00"), text("\x00\x00"), text("\x00\x01"), text("\x00\xff"), text("\x01"), text("a"), text("a\x00"), text("a\x00\x01"),
		text("a\x00\xff"), text("a\x01"), text("aa"), text(strings.Repeat("a", api.MaxText)), text(strings.Repeat("\xff", api.MaxText)),
	}
}

// bad are values that are not good.
func bad() []api.Value {
	return []api.Value{
		{N: 1}, {N: 5}, {F: 1}, {F: of(1 << 63)}, {S: "a"},
		boolean(2), boolean(-1), {Kind: api.Bool, N: 1, S: "a"},
		{Kind: api.Int, N: 5, F: 1}, {Kind: api.Int, N: 5, S: "a"},
		point(of(1 << 63)), point(of(0x7ff8000000000001)), point(of(0xfff8000000000000)), {Kind: api.Float, N: 1},
		text(strings.Repeat("a", api.MaxText+1)), text(strings.Repeat("a", 70000)), {Kind: api.Text, N: 1, S: "a"},
		{Kind: 5}, {Kind: 9}, {Kind: -1}, {Kind: 256 + api.Int}, {Kind: math.MaxInt}, {Kind: math.MinInt},
	}
}

// wrong are numbers that no entry has.
func wrong() []int {
	return []int{-1, -2, -65535, -65536, 65536, 65537, 1<<32 + 1, math.MaxInt, math.MinInt, math.MinInt + 1}
}

func made(t *testing.T, fan int) *Index {
	t.Helper()
	x, err := New(fan)
	if x == nil || err != api.OK {
		t.Fatalf("New(%d): %v, %d", fan, x, err)
	}
	return x
}

// add fails unless that is told.
func add(t *testing.T, x *Index, v api.Value, tid, leaf int, m leaf.Move) {
	t.Helper()
	before := x.Len()
	if n, got, err := x.Add(v, tid); n != leaf || got != m || err != api.OK {
		t.Fatalf("Add(%v, %d): %d, %v, %d, wanted %d, %v", v, tid, n, got, err, leaf, m)
	}
	if !x.Has(v, tid) || x.Len() != before+1 {
		t.Fatalf("%v, %d was added: %t, %d", v, tid, x.Has(v, tid), x.Len())
	}
}

// drop fails unless that is told.
func drop(t *testing.T, x *Index, v api.Value, tid, leaf int, m leaf.Move) {
	t.Helper()
	before := x.Len()
	if n, got, err := x.Drop(v, tid); n != leaf || got != m || err != api.OK {
		t.Fatalf("Drop(%v, %d): %d, %v, %d, wanted %d, %v", v, tid, n, got, err, leaf, m)
	}
	if x.Has(v, tid) || x.Len() != before-1 {
		t.Fatalf("%v, %d was dropped: %t, %d", v, tid, x.Has(v, tid), x.Len())
	}
}

// refused fails unless the error is that one and nothing else is told.
func refused(t *testing.T, want api.Errno) func(leaf int, m leaf.Move, e api.Errno) {
	return func(n int, m leaf.Move, e api.Errno) {
		t.Helper()
		if n != 0 || m != (leaf.Move{}) || e != want {
			t.Fatalf("%d, %v, %d, wanted the error %d alone", n, m, e, want)
		}
	}
}

// lists is what Find or Range tells.
type lists struct{ tids, leaves []int }

func told(tids, leaves []int) lists { return lists{tids, leaves} }

func (l lists) same(m lists) bool {
	return slices.Equal(l.tids, m.tids) && slices.Equal(l.leaves, m.leaves)
}

// find fails unless just those tids are found, and those leaves.
func find(t *testing.T, x *Index, v api.Value, tids, leaves []int) {
	t.Helper()
	if got := told(x.Find(v)); !got.same(lists{tids, leaves}) {
		t.Fatalf("Find(%v): %v, wanted %v, %v", v, got, tids, leaves)
	}
}

// ranged fails unless just those tids are in the range, and those leaves.
func ranged(t *testing.T, x *Index, v, w api.Value, tids, leaves []int) {
	t.Helper()
	if got := told(x.Range(v, w)); !got.same(lists{tids, leaves}) {
		t.Fatalf("Range(%v, %v): %v, wanted %v, %v", v, w, got, tids, leaves)
	}
}

// stand fails unless there are so many entries, and those leaves.
func stand(t *testing.T, x *Index, count int, leaves ...int) {
	t.Helper()
	if got := x.Leaves(); x.Len() != count || !slices.Equal(got, leaves) {
		t.Fatalf("%d entries on the leaves %v, wanted %d on %v", x.Len(), got, count, leaves)
	}
}

func TestExample(t *testing.T) {
	x := made(t, 2)
	add(t, x, whole(5), 3, 1, leaf.Move{})
	add(t, x, whole(5), 1, 1, leaf.Move{})
	find(t, x, whole(5), []int{1, 3}, []int{1})
}

func TestNew(t *testing.T) {
	for _, fan := range []int{1, 0, -1, -2, api.MaxFan + 1, 1000, 1<<8 + 2, 1<<32 + 2, math.MaxInt, math.MinInt, math.MinInt + 2} {
		if x, err := New(fan); x != nil || err != api.ErrArg {
			t.Errorf("New(%d): %v, %d", fan, x, err)
		}
	}
	for fan := 2; fan <= api.MaxFan; fan++ {
		x := made(t, fan)
		stand(t, x, 0, 1)
		find(t, x, whole(5), nil, []int{1})
		ranged(t, x, api.Value{}, text("a"), nil, []int{1})
		refused(t, api.ErrNone)(x.Drop(whole(5), 1))
		for tid := range fan { // a leaf has as many as it may, and then parts
			add(t, x, whole(5), tid, 1, leaf.Move{})
		}
		add(t, x, whole(5), fan, 2, leaf.Move{From: 1, To: 2})
		stand(t, x, fan+1, 1, 2)
		stand(t, made(t, fan), 0, 1) // two are not one
	}
}

// TestLeaves: entries of one value, and of several, over leaves that part and join.
func TestLeaves(t *testing.T) {
	x := made(t, 2)
	add(t, x, whole(5), 3, 1, leaf.Move{})
	add(t, x, whole(5), 1, 1, leaf.Move{})
	add(t, x, whole(5), 2, 1, leaf.Move{From: 1, To: 2})
	stand(t, x, 3, 1, 2)
	find(t, x, whole(4), nil, []int{1})
	find(t, x, whole(5), []int{1, 2, 3}, []int{1, 2})
	find(t, x, whole(6), nil, []int{2})
	add(t, x, whole(4), 9, 1, leaf.Move{From: 1, To: 3})
	stand(t, x, 4, 1, 3, 2)
	find(t, x, whole(4), []int{9}, []int{1})
	find(t, x, whole(5), []int{1, 2, 3}, []int{1, 3, 2})
	ranged(t, x, whole(4), whole(6), []int{9, 1, 2, 3}, []int{1, 3, 2})
	ranged(t, x, whole(4), whole(5), []int{9}, []int{1})
	ranged(t, x, whole(6), whole(7), nil, []int{2})
	drop(t, x, whole(5), 2, 3, leaf.Move{From: 3, To: 1})
	find(t, x, whole(5), []int{1, 3}, []int{1, 2})
	drop(t, x, whole(4), 9, 1, leaf.Move{})
	drop(t, x, whole(5), 1, 1, leaf.Move{From: 1, To: 2})
	find(t, x, whole(4), nil, []int{2})
	drop(t, x, whole(5), 3, 2, leaf.Move{})
	stand(t, x, 0, 2)
	find(t, x, whole(5), nil, []int{2})
}

// TestBounds: a bound that is a value's least or greatest entry.
func TestBounds(t *testing.T) {
	x := made(t, 2)
	add(t, x, whole(5), 0, 1, leaf.Move{})
	add(t, x, whole(5), 1, 1, leaf.Move{})
	add(t, x, whole(6), 0, 2, leaf.Move{From: 1, To: 2})
	find(t, x, whole(5), []int{0, 1}, []int{1})
	find(t, x, whole(6), []int{0}, []int{2})
	ranged(t, x, whole(5), whole(6), []int{0, 1}, []int{1, 2})
	ranged(t, x, whole(6), whole(7), []int{0}, []int{2})
	ranged(t, x, whole(4), whole(5), nil, []int{1})
	x = made(t, 2)
	add(t, x, whole(5), 65534, 1, leaf.Move{})
	add(t, x, whole(5), 0, 1, leaf.Move{})
	add(t, x, whole(5), 65535, 2, leaf.Move{From: 1, To: 2})
	find(t, x, whole(5), []int{0, 65534, 65535}, []int{1, 2})
	find(t, x, whole(6), nil, []int{2})
	ranged(t, x, whole(5), whole(6), []int{0, 65534, 65535}, []int{1, 2})
	ranged(t, x, whole(4), whole(5), nil, []int{1})
}

// TestTids: they rise as numbers, up to the greatest.
func TestTids(t *testing.T) {
	tids := []int{0, 1, 2, 127, 128, 255, 256, 257, 511, 512, 32767, 32768, 65280, 65534, 65535}
	for _, v := range rising() {
		x := made(t, api.MaxFan)
		for i := range tids {
			add(t, x, v, tids[i*7%len(tids)], 1, leaf.Move{})
		}
		find(t, x, v, tids, []int{1})
		for _, tid := range tids {
			refused(t, api.ErrTwice)(x.Add(v, tid))
		}
		stand(t, x, len(tids), 1)
	}
}

// TestValues: each value's entries are its own, and ranges go by values, then by tids.
func TestValues(t *testing.T) {
	x := made(t, api.MaxFan)
	l := rising()
	for i, v := range l { // what stands behind comes with lesser tids, and once more with greater ones
		x.Add(v, len(l)-i)
		x.Add(v, 1000+i)
	}
	for i, v := range l {
		if tids, _ := x.Find(v); !slices.Equal(tids, []int{len(l) - i, 1000 + i}) {
			t.Errorf("Find(%v): %v", v, tids)
		}
		for k, w := range l {
			var want []int
			for n := i; n < k; n++ {
				want = append(want, len(l)-n, 1000+n)
			}
			tids, leaves := x.Range(v, w)
			if !slices.Equal(tids, want) || (len(leaves) > 0) != (i < k) {
				t.Errorf("Range(%v, %v): %v, %v, wanted %v", v, w, tids, leaves, want)
			}
		}
	}
}

// TestBadValues: they are told by ErrForm ahead of all else, and change nothing.
func TestBadValues(t *testing.T) {
	x := made(t, 2)
	for tid := range 3 {
		x.Add(whole(5), tid)
		x.Add(api.Value{}, tid)
	}
	leaves := x.Leaves()
	for _, v := range bad() {
		for _, tid := range append(wrong(), 0, 1, 65535) {
			refused(t, api.ErrForm)(x.Add(v, tid))
			refused(t, api.ErrForm)(x.Drop(v, tid))
			if x.Has(v, tid) {
				t.Errorf("Has(%v, %d)", v, tid)
			}
		}
		find(t, x, v, nil, nil)
		ranged(t, x, v, v, nil, nil)
		for _, w := range rising() {
			ranged(t, x, v, w, nil, nil)
			ranged(t, x, w, v, nil, nil)
		}
	}
	stand(t, x, 6, leaves...)
}

// TestWrongTids: they are told by ErrArg, and change nothing.
func TestWrongTids(t *testing.T) {
	x := made(t, 2)
	for _, tid := range []int{0, 1, 2, 65535} {
		x.Add(whole(5), tid)
	}
	leaves := x.Leaves()
	for _, tid := range wrong() {
		for _, v := range append(rising(), whole(5)) {
			refused(t, api.ErrArg)(x.Add(v, tid))
			refused(t, api.ErrArg)(x.Drop(v, tid))
			if x.Has(v, tid) {
				t.Errorf("Has(%v, %d)", v, tid)
			}
		}
	}
	stand(t, x, 4, leaves...)
	find(t, x, whole(5), []int{0, 1, 2, 65535}, leaves)
}

// TestTwiceAndNone: what is there is not added, what is not there is not dropped.
func TestTwiceAndNone(t *testing.T) {
	x := made(t, 2)
	add(t, x, nan(), 7, 1, leaf.Move{})
	refused(t, api.ErrTwice)(x.Add(nan(), 7))
	refused(t, api.ErrNone)(x.Drop(nan(), 6))
	refused(t, api.ErrNone)(x.Drop(point(math.Inf(1)), 7))
	refused(t, api.ErrNone)(x.Drop(api.Value{}, 7))
	stand(t, x, 1, 1)
	add(t, x, whole(0), 7, 1, leaf.Move{}) // another kind's 0, and another tid, are others
	add(t, x, point(0), 7, 1, leaf.Move{From: 1, To: 2})
	add(t, x, nan(), 8, 2, leaf.Move{})
	stand(t, x, 4, 1, 2)
	find(t, x, nan(), []int{7, 8}, []int{1, 2}) // a lesser tid would stand on 1
	find(t, x, point(0), []int{7}, []int{1})
	find(t, x, whole(0), []int{7}, []int{1})
	find(t, x, boolean(0), nil, []int{1})
	drop(t, x, nan(), 7, 2, leaf.Move{})
	refused(t, api.ErrNone)(x.Drop(nan(), 7))
	find(t, x, nan(), []int{8}, []int{1, 2})
	add(t, x, nan(), 7, 2, leaf.Move{})
	find(t, x, nan(), []int{7, 8}, []int{1, 2})
}

// TestRangesThatAreNone: a range that does not rise has no leaves, too.
func TestRangesThatAreNone(t *testing.T) {
	x := made(t, 2)
	for tid := range 5 {
		x.Add(whole(int64(tid)), tid)
	}
	l := rising()
	for i, v := range l {
		for _, w := range l[:i+1] {
			ranged(t, x, v, w, nil, nil)
		}
	}
}

// TestSplitEndsEarly: who has enough entries gets no more.
func TestSplitEndsEarly(t *testing.T) {
	x := made(t, 2)
	for tid := range 5 {
		x.Add(whole(5), tid)
	}
	keys, _ := x.entries.Range("", "")
	var got []int
	for v, tid := range split(keys) {
		if v != whole(5) {
			t.Error(v)
		}
		if got = append(got, tid); tid == 2 {
			break
		}
	}
	if !slices.Equal(got, []int{0, 1, 2}) {
		t.Error(got)
	}
}

// spoil changes all of a list, its spare room included.
func spoil(l []int) {
	l = l[:cap(l)]
	for i := range l {
		l[i] = -7
	}
}

func TestListsAreTheCallers(t *testing.T) {
	x := made(t, 2)
	for tid := range 9 {
		x.Add(whole(int64(tid%3)), tid)
	}
	all := func() (l [][]int) {
		for range 2 {
			for n := range int64(3) {
				tids, leaves := x.Find(whole(n))
				l = append(l, tids, leaves)
				tids, leaves = x.Range(whole(n), whole(n+2))
				l = append(l, tids, leaves)
			}
			l = append(l, x.Leaves())
		}
		return l
	}
	same := func(a, b [][]int, but int) {
		t.Helper()
		for i := range a {
			if i != but && !slices.Equal(a[i], b[i]) {
				t.Fatalf("%v is %v", b[i], a[i])
			}
		}
	}
	want := all()
	for i := range want {
		got := all()
		spoil(got[i])
		same(got, want, i)
		same(all(), want, -1)
	}
	old := all()
	for tid := range 9 { // what was told stays as it is
		x.Drop(whole(int64(tid%3)), tid)
		x.Add(whole(int64(tid%2)), 9-tid)
	}
	same(old, want, -1)
}

func TestNil(t *testing.T) {
	var x *Index
	for _, v := range append(rising(), bad()...) {
		for _, tid := range append(wrong(), 0, 1, 65535) {
			refused(t, api.ErrArg)(x.Add(v, tid))
			refused(t, api.ErrArg)(x.Drop(v, tid))
			if x.Has(v, tid) {
				t.Errorf("Has(%v, %d)", v, tid)
			}
		}
		find(t, x, v, nil, nil)
		ranged(t, x, api.Value{}, v, nil, nil)
		ranged(t, x, v, text("b"), nil, nil)
	}
	stand(t, x, 0)
}
