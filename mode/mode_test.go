package mode

import (
	"math"
	"slices"
	"testing"

	"livery/api"
)

const (
	allModes = 0x1fe
	noMode   = ^allModes // bit 0, and all bits above the modes'
)

// chapter is what bars what, in the numbers that the document has.
func chapter() [9][]int {
	return [9][]int{
		1: {8},
		2: {7, 8},
		3: {5, 6, 7, 8},
		4: {4, 5, 6, 7, 8},
		5: {3, 4, 6, 7, 8},
		6: {3, 4, 5, 6, 7, 8},
		7: {2, 3, 4, 5, 6, 7, 8},
		8: {1, 2, 3, 4, 5, 6, 7, 8},
	}
}

// wrong are numbers that are no modes, of which many would be one if some of
// their bits were lost, or would be a shift that panics.
func wrong() []int {
	out := []int{0, 9, 10, 16, 63, 64, 65, 1 << 8, 1<<8 + 1, 1<<16 + 8, 1<<32 + 1, 1<<32 + 8, math.MaxInt, math.MaxInt - 1, math.MinInt, math.MinInt + 1, math.MinInt + 8}
	for m := 1; m <= 64; m++ {
		out = append(out, -m)
	}
	return out
}

// asked tells whether the document says of two modes that they bar each other.
func asked(a, b int) bool { return slices.Contains(chapter()[a], b) }

func setOf(l []int) int {
	set := 0
	for _, m := range l {
		set |= 1 << m
	}
	return set
}

func TestBars(t *testing.T) {
	for a := 1; a <= 8; a++ {
		for b := 1; b <= 8; b++ {
			if got := Bars(a, b); got != asked(a, b) {
				t.Errorf("Bars(%d, %d): %t", a, b, got)
			}
		}
	}
}

func TestExamples(t *testing.T) {
	if !Bars(3, 5) || Bars(3, 3) {
		t.Error(Bars(3, 5), Bars(3, 3))
	}
}

func TestBarsOfWhatIsNoMode(t *testing.T) {
	for _, a := range wrong() {
		for m := 1; m <= 8; m++ {
			if Bars(a, m) || Bars(m, a) {
				t.Errorf("%d and %d: %t, %t", a, m, Bars(a, m), Bars(m, a))
			}
		}
		for _, b := range wrong() {
			if Bars(a, b) {
				t.Errorf("Bars(%d, %d)", a, b)
			}
		}
	}
}

// TestBarsBothWays is P5.3.
func TestBarsBothWays(t *testing.T) {
	for a := 1; a <= 8; a++ {
		for b := 1; b <= 8; b++ {
			if Bars(a, b) != Bars(b, a) {
				t.Errorf("Bars(%d, %d): %t; the other way: %t", a, b, Bars(a, b), Bars(b, a))
			}
		}
		if !Bars(8, a) || !Bars(a, 8) {
			t.Errorf("8 does not bar %d", a)
		}
		if Bars(1, a) != (a == 8) || Bars(a, 1) != (a == 8) {
			t.Errorf("1 and %d: %t, %t", a, Bars(1, a), Bars(a, 1))
		}
	}
	if With(8) != allModes || With(1) != 1<<8 {
		t.Errorf("With(8): %#x, With(1): %#x", With(8), With(1))
	}
}

func TestWith(t *testing.T) {
	for m := 1; m <= 8; m++ {
		if got := With(m); got != setOf(chapter()[m]) {
			t.Errorf("With(%d): %#x", m, got)
		}
	}
	for _, m := range wrong() {
		if got := With(m); got != 0 {
			t.Errorf("With(%d): %#x", m, got)
		}
	}
}

// sets are all sets of modes.
func sets() []int {
	var out []int
	for s := 0; s <= allModes; s += 2 {
		out = append(out, s)
	}
	return out
}

// barsOne tells whether the document says that m bars one of the set's modes.
func barsOne(set, m int) bool {
	for b := 1; b <= 8; b++ {
		if set&(1<<b) != 0 && asked(m, b) {
			return true
		}
	}
	return false
}

func TestAny(t *testing.T) {
	for _, set := range sets() {
		for m := 1; m <= 8; m++ {
			if got := Any(set, m); got != barsOne(set, m) {
				t.Errorf("Any(%#x, %d): %t", set, m, got)
			}
		}
	}
	for m := 1; m <= 8; m++ {
		if Any(0, m) || !Any(allModes, m) {
			t.Errorf("%d: none %t, all %t", m, Any(0, m), Any(allModes, m))
		}
	}
}

// strange are sets of bits of which none is a mode's.
func strange() []int {
	out := []int{1, noMode, math.MinInt, math.MinInt + 1, math.MaxInt &^ allModes}
	for bit := 9; bit < 63; bit++ {
		out = append(out, 1<<bit, -1<<bit, 1<<bit|1)
	}
	return out
}

func TestAnyOfBitsThatAreNoModes(t *testing.T) {
	for _, more := range strange() {
		for m := 1; m <= 8; m++ {
			if Any(more, m) {
				t.Errorf("Any(%#x, %d)", more, m)
			}
			for _, set := range sets() {
				if got := Any(set|more, m); got != barsOne(set, m) {
					t.Errorf("Any(%#x, %d): %t", set|more, m, got)
				}
			}
		}
	}
	for m := 1; m <= 8; m++ { // 0 and 9 as sets are bits like others: 9 has 0's and 3's
		if Any(9, m) != asked(m, 3) || !Any(-1, m) || !Any(math.MaxInt, m) || Any(math.MinInt, m) {
			t.Errorf("%d: %t, %t, %t, %t", m, Any(9, m), Any(-1, m), Any(math.MaxInt, m), Any(math.MinInt, m))
		}
	}
}

func TestAnyOfWhatIsNoMode(t *testing.T) {
	for _, m := range wrong() {
		for _, set := range append(append(sets(), strange()...), -1, math.MaxInt) {
			if Any(set, m) {
				t.Errorf("Any(%#x, %d)", set, m)
			}
		}
	}
}

func TestName(t *testing.T) {
	for i, want := range []string{"access_share", "row_share", "row_exclusive", "share_update", "share", "share_row", "exclusive", "access_exclusive"} {
		if got := Name(i + 1); got != want {
			t.Errorf("Name(%d): %q", i+1, got)
		}
	}
	for _, m := range wrong() {
		if got := Name(m); got != "" {
			t.Errorf("Name(%d): %q", m, got)
		}
	}
}

func TestOf(t *testing.T) {
	for _, c := range []struct{ kind, number, want int }{
		{api.Begin, 1, 0},
		{api.Commit, 2, 0},
		{api.Abort, 3, 0},
		{api.Insert, 4, 3},
		{api.Update, 5, 3},
		{api.Delete, 6, 3},
		{api.Find, 7, 1},
		{api.Range, 8, 1},
		{api.Scan, 9, 1},
		{api.CreateTable, 10, 8},
		{api.DropTable, 11, 8},
		{api.AddColumn, 12, 8},
		{api.CreateIndex, 13, 5},
		{api.DropIndex, 14, 8},
		{api.Truncate, 15, 8},
		{api.Rewrite, 16, 8},
		{api.BuildIndex, 17, 4},
	} {
		if got := Of(c.kind); c.kind != c.number || got != c.want {
			t.Errorf("Of(%d): %d, %d", c.kind, got, c.want)
		}
	}
}

func TestOfWhatIsNoKind(t *testing.T) {
	kinds := []int{0, 18, 19, 32, 64, 1<<8 + 4, 1<<16 + 7, 1<<32 + 10, math.MaxInt, math.MinInt, math.MinInt + 4}
	for kind := 1; kind <= 64; kind++ {
		kinds = append(kinds, -kind, 17+kind)
	}
	for _, kind := range kinds {
		if got := Of(kind); got != 0 {
			t.Errorf("Of(%d): %d", kind, got)
		}
	}
}
