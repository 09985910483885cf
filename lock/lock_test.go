package lock

import (
	"fmt"
	"math"
	"slices"
	"strings"
	"testing"

	"livery/api"
	"livery/mode"
)

// do takes, and fails unless it comes to what is wanted.
func do(t *testing.T, x *Table, holder int, name string, m int, want api.Errno) {
	t.Helper()
	if err := x.Take(holder, name, m); err != want {
		t.Fatalf("Take(%d, %q, %d): %d, wanted %d", holder, name, m, err, want)
	}
}

// free releases, and fails unless just those are told.
func free(t *testing.T, x *Table, holder int, want ...int) {
	t.Helper()
	if l := x.Release(holder); !slices.Equal(l, want) {
		t.Fatalf("Release(%d): %v, wanted %v", holder, l, want)
	}
}

func has(t *testing.T, x *Table, holder int, name string, modes ...int) {
	t.Helper()
	want := 0
	for _, m := range modes {
		want |= 1 << m
	}
	if got := x.Modes(holder, name); got != want {
		t.Fatalf("Modes(%d, %q): %#x, wanted %#x", holder, name, got, want)
	}
}

// waits fails unless the holder waits for that mode of that name, and just for
// those holders.
func waits(t *testing.T, x *Table, holder int, name string, m int, others ...int) {
	t.Helper()
	n, k, ok := x.Waits(holder)
	if n != name || k != m || !ok {
		t.Fatalf("Waits(%d): %q, %d, %t", holder, n, k, ok)
	}
	if l := x.For(holder); !slices.Equal(l, others) {
		t.Fatalf("For(%d): %v, wanted %v", holder, l, others)
	}
}

// goesOn fails if the holder waits.
func goesOn(t *testing.T, x *Table, holder int) {
	t.Helper()
	if n, m, ok := x.Waits(holder); n != "" || m != 0 || ok {
		t.Fatalf("Waits(%d): %q, %d, %t", holder, n, m, ok)
	}
	if l := x.For(holder); len(l) != 0 {
		t.Fatalf("For(%d): %v", holder, l)
	}
}

func names(t *testing.T, x *Table, want ...string) {
	t.Helper()
	if l := x.Names(); !slices.Equal(l, want) {
		t.Fatalf("Names: %q, wanted %q", l, want)
	}
}

func TestNew(t *testing.T) {
	x := New()
	names(t, x)
	for _, holder := range []int{1, 2, api.MaxTx} {
		has(t, x, holder, "")
		has(t, x, holder, "a")
		goesOn(t, x, holder)
		free(t, x, holder)
	}
	do(t, x, 1, "a", 8, api.OK)
	if y := New(); y.Modes(1, "a") != 0 || len(y.Names()) != 0 || y.Take(2, "a", 8) != api.OK {
		t.Error("two tables are one")
	}
}

func TestExample(t *testing.T) {
	x := New()
	do(t, x, 1, "a", 3, api.OK)
	do(t, x, 2, "a", 5, api.ErrWaits)
	do(t, x, 3, "a", 3, api.ErrWaits)
	waits(t, x, 2, "a", 5, 1)
	waits(t, x, 3, "a", 3, 2)
	free(t, x, 1, 2)
	has(t, x, 2, "a", 5)
	waits(t, x, 3, "a", 3, 2)
	free(t, x, 2, 3)
	has(t, x, 3, "a", 3)
}

// TestPairs: of all two modes, the second one waits just if they bar each other.
func TestPairs(t *testing.T) {
	for a := 1; a <= 8; a++ {
		for b := 1; b <= 8; b++ {
			x := New()
			do(t, x, 7, "t", a, api.OK)
			if !mode.Bars(a, b) {
				do(t, x, 4, "t", b, api.OK)
				has(t, x, 4, "t", b)
				goesOn(t, x, 4)
				free(t, x, 7)
				continue
			}
			do(t, x, 4, "t", b, api.ErrWaits)
			has(t, x, 4, "t")
			waits(t, x, 4, "t", b, 7)
			do(t, x, 5, "u", b, api.OK) // another name is another lock
			free(t, x, 7, 4)
			has(t, x, 4, "t", b)
			goesOn(t, x, 4)
		}
	}
}

// TestOwnModes: nobody bars itself, and what one has grows.
func TestOwnModes(t *testing.T) {
	for a := 1; a <= 8; a++ {
		for b := 1; b <= 8; b++ {
			x := New()
			do(t, x, 3, "t", a, api.OK)
			do(t, x, 3, "t", b, api.OK)
			do(t, x, 3, "t", a, api.OK)
			has(t, x, 3, "t", a, b)
			free(t, x, 3)
			has(t, x, 3, "t")
		}
	}
	x := New()
	for m := 8; m >= 1; m-- {
		do(t, x, 1, "t", m, api.OK)
	}
	has(t, x, 1, "t", 1, 2, 3, 4, 5, 6, 7, 8)
}

func TestSeveralNames(t *testing.T) {
	x := New()
	do(t, x, 1, "b", 8, api.OK)
	do(t, x, 1, "a", 1, api.OK)
	do(t, x, 2, "a", 3, api.OK)
	do(t, x, 3, "c", 5, api.OK)
	do(t, x, 2, "c", 3, api.ErrWaits)
	names(t, x, "a", "b", "c")
	has(t, x, 1, "a", 1)
	has(t, x, 1, "b", 8)
	has(t, x, 1, "c")
	has(t, x, 2, "a", 3)
	has(t, x, 2, "b")
	has(t, x, 2, "c")
	has(t, x, 3, "c", 5)
	waits(t, x, 2, "c", 3, 3)
	free(t, x, 1)
	names(t, x, "a", "c")
	free(t, x, 3, 2)
	names(t, x, "a", "c")
	has(t, x, 2, "a", 3)
	has(t, x, 2, "c", 3)
	free(t, x, 2)
	names(t, x)
}

// TestNamesRise: by bytes, the one of none first.
func TestNamesRise(t *testing.T) {
	x := New()
	want := []string{"", "\x00", "A", "Z", "a", "a\x00", "aa", "ab", "b", "\x7f", "\x80", "é", "\xff", strings.Repeat("\xff", api.MaxName)}
	slices.Sort(want)
	for i := range want {
		do(t, x, i%3+1, want[(i*5+3)%len(want)], 1, api.OK)
		do(t, x, 9, want[(i*5+3)%len(want)], 1, api.OK)
	}
	names(t, x, want...)
}

func TestEdgesOfArguments(t *testing.T) {
	x := New()
	long := strings.Repeat("x", api.MaxName)
	for _, name := range []string{"", long, "\x00\xff\n'", "a"} {
		do(t, x, 1, name, 1, api.OK)
		do(t, x, api.MaxTx, name, 7, api.OK)
		do(t, x, 2, name, 2, api.ErrWaits)
		waits(t, x, 2, name, 2, api.MaxTx)
		free(t, x, 2)
	}
	names(t, x, "", "\x00\xff\n'", "a", long)
	do(t, x, api.MaxTx, "", 8, api.ErrWaits)
	waits(t, x, api.MaxTx, "", 8, 1)
	free(t, x, 1, api.MaxTx)
	has(t, x, api.MaxTx, "", 7, 8)
	do(t, x, 1, "", 1, api.ErrWaits)
	waits(t, x, 1, "", 1, api.MaxTx)
	free(t, x, api.MaxTx, 1)
	names(t, x, "")
}

func wrongHolders() []int {
	return []int{0, -1, -2, -api.MaxTx, api.MaxTx + 1, api.MaxTx + 2, 2 * api.MaxTx, 1<<8 + 1, 1<<16 + 1, 1<<32 + 1, math.MaxInt, math.MaxInt - 1, math.MinInt, math.MinInt + 1}
}

func wrongModes() []int {
	return []int{0, -1, -8, 9, 10, 63, 64, 65, 1<<8 + 1, 1<<16 + 8, 1<<32 + 3, math.MaxInt, math.MinInt, math.MinInt + 1}
}

func TestWrongArguments(t *testing.T) {
	x := New()
	for _, holder := range wrongHolders() {
		do(t, x, holder, "a", 1, api.ErrArg)
		do(t, x, holder, "abcdefghi", 0, api.ErrArg)
		has(t, x, holder, "a")
		goesOn(t, x, holder)
		free(t, x, holder)
	}
	for _, m := range wrongModes() {
		do(t, x, 1, "a", m, api.ErrArg)
		do(t, x, api.MaxTx, "", m, api.ErrArg)
	}
	for _, n := range []int{api.MaxName + 1, api.MaxName + 2, 255, 256, 257, 1 << 16, 1<<16 + 1} {
		do(t, x, 1, strings.Repeat("a", n), 1, api.ErrArg)
		has(t, x, 1, strings.Repeat("a", n))
	}
	names(t, x)
	do(t, x, 2, "a", 8, api.OK)
	for _, holder := range wrongHolders() { // nor when there is something
		do(t, x, holder, "a", 8, api.ErrArg)
		goesOn(t, x, holder)
		free(t, x, holder)
	}
	has(t, x, 2, "a", 8)
	names(t, x, "a")
}

// TestWrongArgumentsFirst: of one that waits, what may not be is told ahead of
// its waiting.
func TestWrongArgumentsFirst(t *testing.T) {
	x := New()
	do(t, x, 1, "a", 8, api.OK)
	do(t, x, 2, "a", 3, api.ErrWaits)
	do(t, x, 2, "abcdefghi", 1, api.ErrArg)
	for _, m := range wrongModes() {
		do(t, x, 2, "a", m, api.ErrArg)
	}
	do(t, x, 2, "a", 3, api.ErrState)
	waits(t, x, 2, "a", 3, 1)
}

func TestNil(t *testing.T) {
	var x *Table
	for _, holder := range append(wrongHolders(), 1, 2, api.MaxTx) {
		for _, name := range []string{"", "a", "abcdefghi"} {
			for _, m := range append(wrongModes(), 1, 8) {
				do(t, x, holder, name, m, api.ErrArg)
			}
			has(t, x, holder, name)
		}
		goesOn(t, x, holder)
		free(t, x, holder)
	}
	names(t, x)
}

// TestWaitsAndTakes: who waits takes nothing, not even what it has.
func TestWaitsAndTakes(t *testing.T) {
	x := New()
	do(t, x, 1, "a", 3, api.OK)
	do(t, x, 2, "a", 1, api.OK)
	do(t, x, 2, "b", 8, api.OK)
	do(t, x, 2, "a", 5, api.ErrWaits)
	for m := 1; m <= 8; m++ {
		for _, name := range []string{"", "a", "b", "c"} {
			do(t, x, 2, name, m, api.ErrState)
		}
	}
	has(t, x, 2, "a", 1)
	has(t, x, 2, "b", 8)
	has(t, x, 2, "c")
	names(t, x, "a", "b")
	waits(t, x, 2, "a", 5, 1)
	free(t, x, 1, 2)
	do(t, x, 2, "a", 8, api.OK)
	do(t, x, 2, "c", 8, api.OK)
}

// TestHasAlready: beside a queue too.
func TestHasAlready(t *testing.T) {
	x := New()
	do(t, x, 1, "a", 3, api.OK)
	do(t, x, 2, "a", 8, api.ErrWaits)
	do(t, x, 3, "a", 3, api.ErrWaits)
	do(t, x, 1, "a", 3, api.OK)
	goesOn(t, x, 1)
	has(t, x, 1, "a", 3)
}

// TestMoreBesideQueue: who has a mode of the name asks past who only waits, but
// not past who has.
func TestMoreBesideQueue(t *testing.T) {
	x := New()
	do(t, x, 1, "a", 1, api.OK)
	do(t, x, 2, "a", 8, api.ErrWaits)
	do(t, x, 3, "a", 1, api.ErrWaits)
	for m := 2; m <= 8; m++ {
		do(t, x, 1, "a", m, api.OK) // the queue bars all of these
	}
	has(t, x, 1, "a", 1, 2, 3, 4, 5, 6, 7, 8)
	waits(t, x, 2, "a", 8, 1)
	waits(t, x, 3, "a", 1, 1, 2)
	do(t, x, 1, "b", 1, api.OK)
	do(t, x, 4, "b", 8, api.ErrWaits)
	do(t, x, 5, "a", 1, api.ErrWaits)
	waits(t, x, 5, "a", 1, 1, 2)
	do(t, x, 6, "b", 1, api.ErrWaits) // another name's modes don't help
	waits(t, x, 6, "b", 1, 4)

	y := New()
	do(t, y, 1, "a", 1, api.OK)
	do(t, y, 2, "a", 3, api.OK)
	do(t, y, 3, "a", 8, api.ErrWaits)
	do(t, y, 1, "a", 5, api.ErrWaits) // of the queue nobody bars it, 2 does
	waits(t, y, 1, "a", 5, 2)
	waits(t, y, 3, "a", 8, 1, 2)
	free(t, y, 2, 1) // past 3, which is ahead
	has(t, y, 1, "a", 1, 5)
	waits(t, y, 3, "a", 8, 1)
	free(t, y, 1, 3)
}

// TestAheadAlone: what others have does not bar it, a request ahead of it does.
func TestAheadAlone(t *testing.T) {
	x := New()
	do(t, x, 1, "a", 1, api.OK)
	do(t, x, 2, "a", 8, api.ErrWaits)
	do(t, x, 3, "a", 1, api.ErrWaits)
	waits(t, x, 3, "a", 1, 2)
	do(t, x, 4, "a", 3, api.ErrWaits)
	waits(t, x, 4, "a", 3, 2)
	do(t, x, 5, "a", 5, api.ErrWaits)
	waits(t, x, 5, "a", 5, 2, 4)
	do(t, x, 6, "a", 2, api.ErrWaits)
	waits(t, x, 6, "a", 2, 2)
	free(t, x, 2, 3, 4, 6)
	waits(t, x, 5, "a", 5, 4)
	free(t, x, 4, 5)
}

// TestAheadThatDoesNotBar: a queue is passed by whom no one in it bars.
func TestAheadThatDoesNotBar(t *testing.T) {
	x := New()
	do(t, x, 1, "a", 3, api.OK)
	do(t, x, 2, "a", 5, api.ErrWaits)
	do(t, x, 3, "a", 1, api.OK)
	do(t, x, 4, "a", 2, api.OK)
	do(t, x, 5, "a", 5, api.ErrWaits) // 5 does not bar 5: 1 alone does
	waits(t, x, 5, "a", 5, 1)
	free(t, x, 1, 2, 5)
}

// TestForBothWays: one that has a mode and waits ahead for another one is told
// once.
func TestForBothWays(t *testing.T) {
	x := New()
	do(t, x, 9, "a", 3, api.OK)
	do(t, x, 2, "a", 3, api.OK)
	do(t, x, 9, "a", 5, api.ErrWaits)
	do(t, x, 4, "a", 8, api.ErrWaits)
	waits(t, x, 9, "a", 5, 2)
	waits(t, x, 4, "a", 8, 2, 9)
	do(t, x, 1, "a", 7, api.ErrWaits)
	waits(t, x, 1, "a", 7, 2, 4, 9)
}

// TestCircle: two that want more of the same bar each other by what they have.
func TestCircle(t *testing.T) {
	x := New()
	do(t, x, 1, "a", 3, api.OK)
	do(t, x, 2, "a", 3, api.OK)
	do(t, x, 1, "a", 5, api.ErrWaits)
	do(t, x, 2, "a", 5, api.ErrWaits)
	waits(t, x, 1, "a", 5, 2)
	waits(t, x, 2, "a", 5, 1)
	free(t, x, 1, 2)
	has(t, x, 2, "a", 3, 5)
	has(t, x, 1, "a")
	goesOn(t, x, 1)
}

// TestReleaseOfOneThatHasAndWaits: both go, and others get in by either.
func TestReleaseOfOneThatHasAndWaits(t *testing.T) {
	x := New()
	do(t, x, 1, "b", 3, api.OK)
	do(t, x, 2, "a", 8, api.OK)
	do(t, x, 2, "b", 5, api.ErrWaits)
	do(t, x, 3, "b", 3, api.ErrWaits) // barred by 2's request
	do(t, x, 4, "a", 1, api.ErrWaits) // barred by 2's mode
	free(t, x, 2, 4, 3)
	has(t, x, 2, "a")
	has(t, x, 2, "b")
	goesOn(t, x, 2)
	has(t, x, 3, "b", 3)
	has(t, x, 4, "a", 1)
	do(t, x, 2, "a", 1, api.OK) // it may begin anew
	free(t, x, 2)
	free(t, x, 2)
}

// TestReleaseOfOneThatHasAndWaitsForTheSame: one name, gone through once.
func TestReleaseOfOneThatHasAndWaitsForTheSame(t *testing.T) {
	x := New()
	do(t, x, 1, "a", 3, api.OK)
	do(t, x, 2, "a", 3, api.OK)
	do(t, x, 2, "a", 5, api.ErrWaits)
	do(t, x, 3, "a", 1, api.OK)
	do(t, x, 4, "a", 3, api.ErrWaits) // barred by 2's request alone
	do(t, x, 5, "a", 6, api.ErrWaits)
	waits(t, x, 4, "a", 3, 2)
	waits(t, x, 5, "a", 6, 1, 2, 4)
	free(t, x, 2, 4)
	waits(t, x, 5, "a", 6, 1, 4)
}

// TestReleaseOfOneThatOnlyWaits: at the head, amidst and at the end of a queue.
func TestReleaseOfOneThatOnlyWaits(t *testing.T) {
	for _, c := range []struct {
		gone int
		told []int
		left []int
	}{
		{2, []int{3}, []int{4, 5}},
		{3, nil, []int{2, 4, 5}},
		{4, nil, []int{2, 3, 5}},
		{5, nil, []int{2, 3, 4}},
	} {
		x := New()
		do(t, x, 1, "a", 3, api.OK)
		do(t, x, 2, "a", 5, api.ErrWaits)
		do(t, x, 3, "a", 3, api.ErrWaits)
		do(t, x, 4, "a", 6, api.ErrWaits)
		do(t, x, 5, "a", 6, api.ErrWaits)
		free(t, x, c.gone, c.told...)
		goesOn(t, x, c.gone)
		has(t, x, c.gone, "a")
		for _, holder := range c.left {
			if _, _, ok := x.Waits(holder); !ok || len(x.For(holder)) == 0 || slices.Contains(x.For(holder), c.gone) {
				t.Errorf("%d gone: %d waits: %t, for %v", c.gone, holder, ok, x.For(holder))
			}
		}
	}
}

// TestReleaseOfTheOnlyOneThatWaits: its name goes too, if nobody has it.
func TestReleaseOfTheOnlyOneThatWaits(t *testing.T) {
	x := New()
	do(t, x, 1, "a", 8, api.OK)
	do(t, x, 2, "a", 1, api.ErrWaits)
	free(t, x, 2)
	names(t, x, "a")
	free(t, x, 1)
	names(t, x)
	if len(x.sets)+len(x.wants)+len(x.queues) != 0 {
		t.Error("something is kept", x.sets, x.wants, x.queues)
	}
}

func TestReleaseOfOneThatDoesNeither(t *testing.T) {
	x := New()
	do(t, x, 1, "a", 3, api.OK)
	do(t, x, 2, "a", 5, api.ErrWaits)
	do(t, x, 3, "a", 3, api.ErrWaits)
	for _, holder := range append(wrongHolders(), 4, api.MaxTx) {
		free(t, x, holder)
	}
	has(t, x, 1, "a", 3)
	waits(t, x, 2, "a", 5, 1)
	waits(t, x, 3, "a", 3, 2)
}

// TestReleaseOfSeveralNames: by the names' bytes, not as they were taken, and
// within a name as they came.
func TestReleaseOfSeveralNames(t *testing.T) {
	x := New()
	for _, name := range []string{"b", "", "\xff", "ab", "a", "B"} {
		do(t, x, 1, name, 8, api.OK)
	}
	do(t, x, 20, "z", 8, api.OK)
	do(t, x, 1, "z", 8, api.ErrWaits)
	for i, name := range []string{"z", "\xff", "b", "ab", "a", "B", "", "\xff", "a", ""} {
		do(t, x, 15-i, name, 3, api.ErrWaits)
	}
	do(t, x, 30, "z", 1, api.ErrWaits)
	waits(t, x, 15, "z", 3, 1, 20)
	free(t, x, 1, 9, 6, 10, 11, 7, 12, 13, 14, 8)
	waits(t, x, 15, "z", 3, 20)
	free(t, x, 20, 15, 30)
}

// TestGivenInOrder: a mode that was given at the same Release bars those behind
// it, and who still waits does so too.
func TestGivenInOrder(t *testing.T) {
	x := New()
	do(t, x, 1, "a", 8, api.OK)
	for i, m := range []int{3, 3, 5, 1, 3, 2, 5, 8, 1} {
		do(t, x, 11+i, "a", m, api.ErrWaits)
	}
	free(t, x, 1, 11, 12, 14, 16)
	waits(t, x, 13, "a", 5, 11, 12)
	waits(t, x, 15, "a", 3, 13)
	waits(t, x, 17, "a", 5, 11, 12, 15)
	waits(t, x, 18, "a", 8, 11, 12, 13, 14, 15, 16, 17)
	waits(t, x, 19, "a", 1, 18)
	free(t, x, 11)
	free(t, x, 12, 13)
	waits(t, x, 17, "a", 5, 15) // 13's 5 goes with it, 15's request is ahead
	free(t, x, 18, 19)
	free(t, x, 13, 15)
	free(t, x, 15, 17)
}

// TestGivenPastTheQueue: who has a mode is passed by one ahead of it, that has
// none and bars it, and waits for that one then.
func TestGivenPastTheQueue(t *testing.T) {
	x := New()
	do(t, x, 1, "a", 4, api.OK)
	do(t, x, 1, "a", 5, api.OK)
	do(t, x, 2, "a", 1, api.OK)
	do(t, x, 3, "a", 3, api.ErrWaits)
	do(t, x, 2, "a", 5, api.ErrWaits)
	waits(t, x, 2, "a", 5, 1)
	free(t, x, 1, 3)
	waits(t, x, 2, "a", 5, 3)
	free(t, x, 3, 2)
	has(t, x, 2, "a", 1, 5)
}

// TestAllHolders: a queue of all that may be.
func TestAllHolders(t *testing.T) {
	x := New()
	var want []int
	for holder := api.MaxTx; holder >= 1; holder-- {
		if holder == api.MaxTx {
			do(t, x, holder, "a", 8, api.OK)
			continue
		}
		do(t, x, holder, "a", 3, api.ErrWaits)
		want = append(want, holder)
	}
	free(t, x, api.MaxTx, want...)
	do(t, x, api.MaxTx, "a", 5, api.ErrWaits)
	slices.Sort(want)
	waits(t, x, api.MaxTx, "a", 5, want...)
	for _, holder := range want[1:] {
		free(t, x, holder)
	}
	free(t, x, 1, api.MaxTx)
}

// TestManyNames: a table has no bound of names.
func TestManyNames(t *testing.T) {
	x := New()
	var want []string
	for i := range 20000 {
		name := fmt.Sprintf("%08d", i)
		do(t, x, 1, name, 8, api.OK)
		want = append(want, name)
	}
	do(t, x, 2, want[19999], 1, api.ErrWaits)
	do(t, x, 3, want[0], 1, api.ErrWaits)
	names(t, x, want...)
	free(t, x, 1, 3, 2)
	names(t, x, want[0], want[19999])
}

// spoil writes over a list, its spare room too.
func spoil[T any](l []T, with T) {
	l = l[:cap(l)]
	for i := range l {
		l[i] = with
	}
}

// TestNewMemory: what was told may be changed.
func TestNewMemory(t *testing.T) {
	x := New()
	do(t, x, 1, "a", 3, api.OK)
	do(t, x, 1, "b", 3, api.OK)
	do(t, x, 2, "a", 5, api.ErrWaits)
	do(t, x, 3, "a", 3, api.ErrWaits)
	do(t, x, 4, "a", 5, api.ErrWaits)
	do(t, x, 5, "b", 5, api.ErrWaits)
	for range 2 {
		for holder := 2; holder <= 5; holder++ {
			spoil(x.For(holder), 77)
		}
		spoil(x.Names(), "no")
	}
	waits(t, x, 4, "a", 5, 1, 3)
	waits(t, x, 3, "a", 3, 2)
	names(t, x, "a", "b")
	l := x.Release(3)
	spoil(l, 77)
	l = x.Release(1)
	if !slices.Equal(l, []int{2, 4, 5}) {
		t.Fatal(l)
	}
	spoil(l, 77)
	has(t, x, 2, "a", 5)
	has(t, x, 4, "a", 5)
	has(t, x, 5, "b", 5)
	for holder := 1; holder <= 5; holder++ {
		goesOn(t, x, holder)
	}
}

// fact is a mode of a name that a holder has or wants.
type fact struct {
	holder int
	name   string
	m      int
}

// words is a table as the document's words have it: what is had, and all
// requests, as they came.
type words struct {
	had, asked []fact
}

func (w *words) hasAny(holder int, name string) bool {
	return slices.ContainsFunc(w.had, func(f fact) bool { return f.holder == holder && f.name == name })
}

// bars are the holders by whom a request is barred, with those requests ahead.
func (w *words) bars(r fact, ahead []fact) []int {
	set := map[int]int{}
	for _, f := range w.had {
		if f.name == r.name && f.holder != r.holder && mode.Bars(f.m, r.m) {
			set[f.holder]++
		}
	}
	for _, f := range ahead {
		if f.name == r.name && f.holder != r.holder && mode.Bars(f.m, r.m) && !w.hasAny(r.holder, r.name) {
			set[f.holder]++
		}
	}
	var out []int
	for holder := 1; holder <= api.MaxTx; holder++ {
		if set[holder] > 0 {
			out = append(out, holder)
		}
	}
	return out
}

func (w *words) request(holder int) int {
	return slices.IndexFunc(w.asked, func(f fact) bool { return f.holder == holder })
}

func (w *words) take(r fact) api.Errno {
	switch {
	case w.request(r.holder) >= 0:
		return api.ErrState
	case slices.Contains(w.had, r):
		return api.OK
	case len(w.bars(r, w.asked)) > 0:
		w.asked = append(w.asked, r)
		return api.ErrWaits
	}
	w.had = append(w.had, r)
	return api.OK
}

func (w *words) release(holder int) []int {
	of := func(f fact) bool { return f.holder == holder }
	var gone []string
	for _, f := range slices.Concat(w.had, w.asked) {
		if of(f) {
			gone = append(gone, f.name)
		}
	}
	w.had, w.asked = slices.DeleteFunc(w.had, of), slices.DeleteFunc(w.asked, of)
	slices.Sort(gone)
	var out []int
	for _, name := range slices.Compact(gone) {
		for i := 0; i < len(w.asked); {
			r := w.asked[i]
			if r.name != name || len(w.bars(r, w.asked[:i])) > 0 {
				i++
				continue
			}
			w.asked = slices.Delete(w.asked, i, i+1)
			w.had = append(w.had, r)
			out = append(out, r.holder)
		}
	}
	return out
}

func (w *words) names() []string {
	var out []string
	for _, f := range slices.Concat(w.had, w.asked) {
		out = append(out, f.name)
	}
	slices.Sort(out)
	return slices.Compact(out)
}

// same fails unless the table tells of everything what the words tell.
func same(t *testing.T, x *Table, w *words, holders int, all []string) {
	t.Helper()
	names(t, x, w.names()...)
	for holder := 1; holder <= holders; holder++ {
		for _, name := range all {
			var modes []int
			for _, f := range w.had {
				if f.holder == holder && f.name == name {
					modes = append(modes, f.m)
				}
			}
			has(t, x, holder, name, modes...)
		}
		i := w.request(holder)
		if i < 0 {
			goesOn(t, x, holder)
			continue
		}
		r := w.asked[i]
		waits(t, x, holder, r.name, r.m, w.bars(r, w.asked[:i])...)
	}
}

// agree is P6.4: no two holders have modes that bar each other; and nobody
// waits whom nobody bars.
func agree(t *testing.T, x *Table, holders int, all []string) {
	t.Helper()
	for _, name := range all {
		for a := 1; a <= holders; a++ {
			for m := 1; m <= 8; m++ {
				if x.Modes(a, name)&(1<<m) == 0 {
					continue
				}
				for b := a + 1; b <= holders; b++ {
					if mode.Any(x.Modes(b, name), m) {
						t.Fatalf("%q: %d has %d, %d has %#x", name, a, m, b, x.Modes(b, name))
					}
				}
			}
		}
	}
	for holder := 1; holder <= holders; holder++ {
		if _, _, ok := x.Waits(holder); ok && len(x.For(holder)) == 0 {
			t.Fatalf("%d waits for nobody", holder)
		}
	}
}

// some tells numbers, always the same ones for a seed.
func some(seed int) func(n int) int {
	x := uint64(88172645463325252) + uint64(seed)*0x9e3779b97f4a7c15
	return func(n int) int {
		x ^= x << 13
		x ^= x >> 7
		x ^= x << 17
		return int(x >> 11 % uint64(n))
	}
}

func TestAgainstTheWords(t *testing.T) {
	all := []string{"", "a", "abcdefgh"}
	for seed := range 60 {
		next := some(seed)
		holders := 2 + seed%7
		top := []int{8, 8, 5, 4}[seed%4] // with the weak modes more is had at once
		x, w := New(), &words{}
		for range 300 {
			holder := 1 + next(holders)
			if next(6) == 0 {
				free(t, x, holder, w.release(holder)...)
			} else {
				r := fact{holder, all[next(1+seed%3)], 1 + next(top)}
				do(t, x, r.holder, r.name, r.m, w.take(r))
			}
			same(t, x, w, holders, all)
			agree(t, x, holders, all)
		}
		finish(t, x, w, holders)
	}
}

// finish is P6.5: whoever waits goes on, once all that bar it have released,
// those that came to bar it by that, too.
func finish(t *testing.T, x *Table, w *words, holders int) {
	t.Helper()
	for holder := 1; holder <= holders; holder++ {
		name, m, ok := x.Waits(holder)
		if !ok {
			continue
		}
		for n := 0; len(x.For(holder)) > 0; n++ {
			if n > holders {
				t.Fatalf("%d waits for ever", holder)
			}
			other := x.For(holder)[0]
			free(t, x, other, w.release(other)...)
		}
		goesOn(t, x, holder)
		if x.Modes(holder, name)&(1<<m) == 0 {
			t.Fatalf("%d has no mode %d of %q", holder, m, name)
		}
	}
}

// TestGoesOnAtTheLast is P6.5 of each order in which those that bar release:
// not ahead of the last one, and at that one.
func TestGoesOnAtTheLast(t *testing.T) {
	for _, order := range [][]int{{1, 2, 3}, {1, 3, 2}, {2, 1, 3}, {2, 3, 1}, {3, 1, 2}, {3, 2, 1}} {
		x := New()
		do(t, x, 1, "a", 1, api.OK)
		do(t, x, 2, "a", 2, api.OK)
		do(t, x, 3, "a", 3, api.OK)
		do(t, x, 4, "b", 8, api.OK) // bars nobody of "a"
		do(t, x, 5, "a", 8, api.ErrWaits)
		free(t, x, order[0])
		free(t, x, 4)
		waits(t, x, 5, "a", 8, min(order[1], order[2]), max(order[1], order[2]))
		free(t, x, order[1])
		waits(t, x, 5, "a", 8, order[2])
		free(t, x, order[2], 5)
		has(t, x, 5, "a", 8)
	}
}
