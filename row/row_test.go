package row

import (
	"fmt"
	"math"
	"slices"
	"strings"
	"testing"

	"livery/api"
)

const (
	minusZero = 0x8000000000000000
	canonNaN  = 0x7ff8000000000000
)

func boolean(n int64) api.Value { return api.Value{Kind: api.Bool, N: n} }

func whole(n int64) api.Value { return api.Value{Kind: api.Int, N: n} }

func point(b uint64) api.Value { return api.Value{Kind: api.Float, F: math.Float64frombits(b)} }

func text(s string) api.Value { return api.Value{Kind: api.Text, S: s} }

func null() api.Value { return api.Value{} }

func longest() string { return strings.Repeat("x", api.MaxText) }

// one tells whether a and b are one bit for bit.
func one(a, b api.Value) bool {
	return a.Kind == b.Kind && a.N == b.N && math.Float64bits(a.F) == math.Float64bits(b.F) && a.S == b.S
}

func oneRow(a, b []api.Value) bool { return slices.EqualFunc(a, b, one) }

func oneColumn(a, b api.Column) bool {
	return a.Name == b.Name && a.Kind == b.Kind && a.NotNull == b.NotNull && one(a.Default, b.Default)
}

func oneColumns(a, b []api.Column) bool { return slices.EqualFunc(a, b, oneColumn) }

// ofKind are good values of a kind.
func ofKind(kind int) []api.Value {
	switch kind {
	case api.Null:
		return []api.Value{null()}
	case api.Bool:
		return []api.Value{boolean(0), boolean(1)}
	case api.Int:
		return []api.Value{whole(0), whole(1), whole(-1), whole(math.MinInt64), whole(math.MaxInt64)}
	case api.Float:
		return []api.Value{point(0), point(1), point(canonNaN), point(math.Float64bits(math.Inf(-1))), point(math.Float64bits(1.5))}
	case api.Text:
		return []api.Value{text(""), text("\x00"), text("a"), text(longest())}
	}
	return nil
}

// goodValues are good values of all kinds.
func goodValues() []api.Value {
	var l []api.Value
	for kind := api.Null; kind <= api.Text; kind++ {
		l = append(l, ofKind(kind)...)
	}
	return l
}

// badValues are values that are not good.
func badValues() []api.Value {
	return []api.Value{
		{N: 1}, {F: 1}, {F: math.Float64frombits(minusZero)}, {S: "a"},
		boolean(2), boolean(-1), {Kind: api.Bool, S: "a"},
		{Kind: api.Int, S: "a"}, {Kind: api.Int, N: 1, F: 1},
		point(minusZero), point(canonNaN + 1), {Kind: api.Float, N: 1}, {Kind: api.Float, F: 1, S: "a"},
		text(longest() + "x"), {Kind: api.Text, N: 1, S: "a"},
		{Kind: -1}, {Kind: 5}, {Kind: 256}, {Kind: 258, N: 1}, {Kind: math.MinInt}, {Kind: math.MaxInt},
	}
}

func badKinds() []int {
	return []int{api.Null, -1, 5, 6, 255, 256, 257, 258, math.MinInt, math.MaxInt}
}

func badNames() []string {
	return []string{"", "A", "_a", "0", "9a", "a-", "a b", "a\x00", "é", "\xff", "abcdefghi", strings.Repeat("a", 1000)}
}

func column(name string, kind int, not bool, v api.Value) api.Column {
	return api.Column{Name: name, Kind: kind, NotNull: not, Default: v}
}

// plain are n columns that are good, if n is 1 to MaxCols.
func plain(n int) []api.Column {
	l := make([]api.Column, n)
	for i := range l {
		l[i] = column(fmt.Sprint("c", i), api.Bool+i%api.Text, false, null())
	}
	return l
}

// mixed are columns with Defaults and without, some of which take no Null.
func mixed() []api.Column {
	return []api.Column{
		column("a", api.Int, true, null()),
		column("b", api.Text, false, text("x")),
		column("c", api.Float, true, point(canonNaN)),
		column("d", api.Bool, false, null()),
	}
}

// with is plain columns of which the one at place is c.
func with(n, place int, c api.Column) []api.Column {
	l := plain(n)
	l[place] = c
	return l
}

// anywhere calls f with lists of 1 to MaxCols columns in which c stands once, at each place, the others good.
func anywhere(c api.Column, f func(l []api.Column)) {
	for n := 1; n <= api.MaxCols; n++ {
		for place := range n {
			f(with(n, place, c))
		}
	}
}

// goodColumns are columns that are good alone.
func goodColumns() []api.Column {
	var l []api.Column
	for kind := api.Bool; kind <= api.Text; kind++ {
		for _, not := range []bool{false, true} {
			for _, v := range append(ofKind(kind), null()) {
				l = append(l, column("z", kind, not, v))
			}
		}
	}
	return append(l, column("abcdefgh", api.Int, false, null()), column("z_9", api.Text, true, text("")))
}

// badColumns are columns that are not good alone, each for one reason.
func badColumns() []api.Column {
	var l []api.Column
	for _, name := range badNames() {
		l = append(l, column(name, api.Int, false, null()), column(name, api.Int, true, whole(1)))
	}
	for _, not := range []bool{false, true} {
		for _, kind := range badKinds() {
			l = append(l, column("z", kind, not, null()), column("z", kind, not, api.Value{Kind: kind}))
		}
		for kind := api.Bool; kind <= api.Text; kind++ {
			for _, v := range badValues() {
				l = append(l, column("z", kind, not, v))
			}
			for other := api.Bool; other <= api.Text; other++ {
				for _, v := range ofKind(other) {
					if other != kind {
						l = append(l, column("z", kind, not, v))
					}
				}
			}
		}
	}
	return l
}

func TestGoodByHowMany(t *testing.T) {
	for n := range 300 {
		if Good(plain(n)) != (n >= 1 && n <= api.MaxCols) {
			t.Error(n)
		}
	}
	if Good(nil) || Good([]api.Column{}) || !Good(mixed()) {
		t.Error("none, or some")
	}
}

func TestGoodByEachColumn(t *testing.T) {
	for _, c := range goodColumns() {
		anywhere(c, func(l []api.Column) {
			if !Good(l) {
				t.Errorf("Good(%v): false", l)
			}
		})
	}
	for _, c := range badColumns() {
		anywhere(c, func(l []api.Column) {
			if Good(l) {
				t.Errorf("Good(%v): true", l)
			}
		})
	}
}

func TestGoodByOneNameTwice(t *testing.T) {
	for n := 2; n <= api.MaxCols; n++ {
		for i := range n {
			for k := range n {
				l := plain(n)
				l[k].Name = l[i].Name
				if Good(l) != (i == k) {
					t.Errorf("%d of %d is named as %d", k, n, i)
				}
			}
		}
	}
}

func TestFind(t *testing.T) {
	l := plain(api.MaxCols)
	for i, c := range l {
		if got := Find(l, c.Name); got != i {
			t.Errorf("Find(%q): %d", c.Name, got)
		}
	}
	twice := append(plain(3), plain(3)...)
	for i := range 3 {
		if got := Find(twice, twice[i].Name); got != i {
			t.Error("not the first one", got)
		}
	}
	for _, name := range []string{"", "c", "c00", "C0", "c6", " c0", "c0\x00", strings.Repeat("c0", 1000)} {
		if Find(l, name) != -1 || Find(nil, name) != -1 || Find([]api.Column{}, name) != -1 {
			t.Errorf("Find(%q): there", name)
		}
	}
	long := plain(1000)
	for _, name := range badNames() { // columns need not be good to be found
		odd := append(append([]api.Column{}, long...), api.Column{Name: name})
		if got := Find(odd, name); got != 1000 {
			t.Errorf("Find(%q): %d", name, got)
		}
	}
}

// mayTake is what Takes should tell, from the kinds alone, of a value that is good.
func mayTake(kind int, not bool, v api.Value) api.Errno {
	if v.Kind == kind && v.Kind != api.Null {
		return api.OK
	}
	if v.Kind != api.Null {
		return api.ErrType
	}
	if not {
		return api.ErrNull
	}
	return api.OK
}

func TestTakes(t *testing.T) {
	kinds := append(badKinds(), api.Bool, api.Int, api.Float, api.Text)
	for _, kind := range kinds {
		for _, not := range []bool{false, true} {
			for _, d := range append(goodValues(), badValues()...) { // neither the Default nor the name counts
				c := column("", kind, not, d)
				for _, v := range goodValues() {
					if got := Takes(c, v); got != mayTake(kind, not, v) {
						t.Errorf("Takes(%v, %v): %d", c, v, got)
					}
				}
				for _, v := range badValues() {
					if got := Takes(c, v); got != api.ErrForm {
						t.Errorf("Takes(%v, %v): %d", c, v, got)
					}
				}
			}
		}
	}
}

func TestTakesByHand(t *testing.T) {
	number, must := column("a", api.Int, false, null()), column("a", api.Int, true, null())
	for i, x := range []struct {
		c    api.Column
		v    api.Value
		want api.Errno
	}{
		{number, whole(5), api.OK},
		{number, null(), api.OK},
		{number, boolean(1), api.ErrType},
		{number, text(""), api.ErrType},
		{number, api.Value{N: 5}, api.ErrForm},
		{number, api.Value{Kind: api.Bool, N: 5}, api.ErrForm},
		{must, whole(5), api.OK},
		{must, null(), api.ErrNull},
		{must, text("a"), api.ErrType},
		{must, api.Value{S: "a"}, api.ErrForm},
		{must, api.Value{Kind: 7}, api.ErrForm},
	} {
		if got := Takes(x.c, x.v); got != x.want {
			t.Error(i, got)
		}
	}
}

func checkFill(t *testing.T, l []api.Column, r, want []api.Value, wantErr api.Errno) {
	t.Helper()
	if got, err := Fill(l, r); !oneRow(got, want) || err != wantErr {
		t.Errorf("Fill(%v, %v): %v, %d", l, r, got, err)
	}
}

func TestFill(t *testing.T) {
	x, nan := text("x"), point(canonNaN)
	for _, c := range []struct{ r, want []api.Value }{
		{[]api.Value{whole(1)}, []api.Value{whole(1), x, nan, null()}},
		{[]api.Value{whole(1), null()}, []api.Value{whole(1), null(), nan, null()}},
		{[]api.Value{whole(1), text("q"), point(0)}, []api.Value{whole(1), text("q"), point(0), null()}},
		{[]api.Value{whole(1), text("q"), point(0), boolean(1)}, []api.Value{whole(1), text("q"), point(0), boolean(1)}},
		{[]api.Value{whole(1), text("q"), point(0), null()}, []api.Value{whole(1), text("q"), point(0), null()}},
	} {
		checkFill(t, mixed(), c.r, c.want, api.OK)
	}
	two := []api.Column{column("a", api.Int, false, whole(3)), column("b", api.Int, false, whole(4))}
	checkFill(t, two, []api.Value{whole(1)}, []api.Value{whole(1), whole(4)}, api.OK)
	checkFill(t, two, nil, []api.Value{whole(3), whole(4)}, api.OK)
	checkFill(t, two, []api.Value{}, []api.Value{whole(3), whole(4)}, api.OK)
	checkFill(t, plain(api.MaxCols), nil, make([]api.Value, api.MaxCols), api.OK)
	checkFill(t, plain(1), nil, []api.Value{null()}, api.OK)
	checkFill(t, plain(1), []api.Value{boolean(1)}, []api.Value{boolean(1)}, api.OK)
}

func TestFillOfTheFirstError(t *testing.T) {
	bad := api.Value{Kind: 9}
	for _, c := range []struct {
		r    []api.Value
		want api.Errno
	}{
		{nil, api.ErrNull},
		{[]api.Value{null(), whole(1)}, api.ErrNull},
		{[]api.Value{null(), bad}, api.ErrNull},
		{[]api.Value{text("a"), bad, null()}, api.ErrType},
		{[]api.Value{bad, whole(1), null()}, api.ErrForm},
		{[]api.Value{whole(1), whole(1), bad}, api.ErrType},
		{[]api.Value{whole(1), bad, null()}, api.ErrForm},
		{[]api.Value{whole(1), null(), null(), bad}, api.ErrNull},
		{[]api.Value{whole(1), null(), point(1), bad}, api.ErrForm},
		{[]api.Value{whole(1), null(), point(1), text("a")}, api.ErrType},
		{[]api.Value{whole(1), null(), point(1), boolean(1), null()}, api.ErrCount},
		{[]api.Value{bad, bad, bad, bad, bad}, api.ErrCount},
		{make([]api.Value, 1000), api.ErrCount},
	} {
		checkFill(t, mixed(), c.r, nil, c.want)
	}
}

// TestFillOfOneFault: one value that is not taken, at each place among those that are.
func TestFillOfOneFault(t *testing.T) {
	for n := 1; n <= api.MaxCols; n++ {
		l := plain(n)
		good := make([]api.Value, n)
		for i, c := range l {
			good[i] = ofKind(c.Kind)[1]
		}
		checkFill(t, l, good, good, api.OK)
		for i := range n {
			for _, v := range append(goodValues(), badValues()...) {
				r := slices.Clone(good)
				r[i] = v
				want := Takes(l[i], v)
				if want == api.OK {
					checkFill(t, l, r, r, api.OK)
				} else {
					checkFill(t, l, r, nil, want)
				}
			}
		}
		checkFill(t, l, append(good, null()), nil, api.ErrCount)
	}
}

// TestFillOfColumnsThatAreNotGood: Defaults are asked as values are.
func TestFillOfColumnsThatAreNotGood(t *testing.T) {
	checkFill(t, nil, nil, nil, api.OK)
	checkFill(t, nil, []api.Value{null()}, nil, api.ErrCount)
	for _, x := range []struct {
		c    api.Column
		want api.Errno
	}{
		{column("", api.Int, false, text("a")), api.ErrType},
		{column("", api.Int, true, null()), api.ErrNull},
		{column("", api.Int, true, api.Value{N: 1}), api.ErrForm},
		{column("", 9, true, api.Value{Kind: 9}), api.ErrForm},
	} {
		for place := range 2 {
			checkFill(t, with(2, place, x.c), nil, nil, x.want)
		}
	}
	checkFill(t, []api.Column{column("", 9, false, text("a"))}, []api.Value{null()}, []api.Value{null()}, api.OK)
	checkFill(t, plain(1000), nil, make([]api.Value, 1000), api.OK)
}

func checkPad(t *testing.T, l []api.Column, r, want []api.Value) {
	t.Helper()
	if got := Pad(l, r); !oneRow(got, want) {
		t.Errorf("Pad(%v, %v): %v", l, r, got)
	}
}

func TestPad(t *testing.T) {
	x, nan := text("x"), point(canonNaN)
	all := []api.Value{whole(1), whole(2), whole(3), whole(4), whole(5)}
	for n, want := range [][]api.Value{
		{null(), x, nan, null()},
		{whole(1), x, nan, null()},
		{whole(1), whole(2), nan, null()},
		{whole(1), whole(2), whole(3), null()},
		{whole(1), whole(2), whole(3), whole(4)},
		{whole(1), whole(2), whole(3), whole(4)},
	} {
		checkPad(t, mixed(), all[:n], want)
	}
	checkPad(t, mixed(), nil, []api.Value{null(), x, nan, null()})
	checkPad(t, nil, nil, nil)
	checkPad(t, nil, all, nil)
	checkPad(t, []api.Column{}, all[:1], nil)
	checkPad(t, plain(1), all, all[:1])
	checkPad(t, plain(2), make([]api.Value, 1000), make([]api.Value, 2))
}

// TestPadAsksNothing: values and Defaults that no column takes stand as they are.
func TestPadAsksNothing(t *testing.T) {
	for _, v := range badValues() {
		odd := column("", 9, true, v)
		checkPad(t, []api.Column{odd, odd}, []api.Value{v}, []api.Value{v, v})
		checkPad(t, []api.Column{odd, odd}, nil, []api.Value{v, v})
		checkPad(t, []api.Column{odd}, []api.Value{v, v}, []api.Value{v})
	}
}

func checkAdd(t *testing.T, l []api.Column, c api.Column, want []api.Column, wantErr api.Errno) {
	t.Helper()
	if got, err := Add(l, c); !oneColumns(got, want) || err != wantErr {
		t.Errorf("Add(%v, %v): %v, %d", l, c, got, err)
	}
}

func TestAdd(t *testing.T) {
	for _, c := range goodColumns() {
		for n := 1; n < api.MaxCols; n++ {
			if c.NotNull && c.Default.Kind == api.Null {
				checkAdd(t, plain(n), c, nil, api.ErrNull)
			} else {
				checkAdd(t, plain(n), c, append(plain(n), c), api.OK)
			}
		}
	}
	checkAdd(t, mixed(), column("e", api.Int, true, whole(0)), append(mixed(), column("e", api.Int, true, whole(0))), api.OK)
}

func TestAddOfWhatIsNotGood(t *testing.T) {
	fine := column("z", api.Int, false, null())
	checkAdd(t, nil, fine, nil, api.ErrForm)
	checkAdd(t, []api.Column{}, fine, nil, api.ErrForm)
	checkAdd(t, plain(api.MaxCols+1), fine, nil, api.ErrForm)
	checkAdd(t, append(plain(2), plain(1)...), fine, nil, api.ErrForm)
	for _, c := range badColumns() {
		for n := range api.MaxCols + 1 {
			checkAdd(t, plain(n), c, nil, api.ErrForm)
		}
		anywhere(c, func(l []api.Column) { checkAdd(t, l, column("y", api.Int, false, null()), nil, api.ErrForm) })
	}
}

func TestAddOfSeveralErrors(t *testing.T) {
	full, must := plain(api.MaxCols), column("z", api.Int, true, null())
	checkAdd(t, full, column("z", api.Int, false, null()), nil, api.ErrMany)
	checkAdd(t, full, must, nil, api.ErrMany)
	checkAdd(t, plain(api.MaxCols-1), must, nil, api.ErrNull)
	for n := 1; n <= api.MaxCols; n++ {
		for i := range n {
			there := must
			there.Name = plain(n)[i].Name
			checkAdd(t, plain(n), there, nil, api.ErrTwice)
			there.Kind = api.Null
			checkAdd(t, plain(n), there, nil, api.ErrForm)
			there.Kind, there.Default = api.Int, whole(1)
			checkAdd(t, plain(n), there, nil, api.ErrTwice)
		}
	}
	again := plain(api.MaxCols + 1)
	checkAdd(t, again, again[0], nil, api.ErrForm)
	checkAdd(t, again, must, nil, api.ErrForm)
}

// some tells numbers, always the same ones.
func some() func(n int) int {
	x := uint64(88172645463325252)
	return func(n int) int {
		x ^= x << 13
		x ^= x >> 7
		x ^= x << 17
		return int(x % uint64(n))
	}
}

// anyColumn is a column that is good alone.
func anyColumn(name string, next func(int) int) api.Column {
	kind := api.Bool + next(api.Text)
	l := append(ofKind(kind), null())
	return column(name, kind, next(2) == 1, l[next(len(l))])
}

// anyRow is a row of n values of which most columns take theirs.
func anyRow(l []api.Column, n int, next func(int) int) []api.Value {
	r := make([]api.Value, n)
	for i := range r {
		of := goodValues()
		if i < len(l) && next(10) > 0 {
			of = append(ofKind(l[i].Kind), null())
		}
		r[i] = of[next(len(of))]
	}
	return r
}

func takenByAll(t *testing.T, l []api.Column, r []api.Value) {
	t.Helper()
	if len(r) != len(l) {
		t.Fatalf("%d columns, %d values", len(l), len(r))
	}
	for i, c := range l {
		if err := Takes(c, r[i]); err != api.OK {
			t.Errorf("Takes(%v, %v): %d", c, r[i], err)
		}
	}
}

func TestWhatWasFilledIsTaken(t *testing.T) {
	next := some()
	filled, added := 0, 0
	for range 5000 {
		var l []api.Column
		for i := range 1 + next(api.MaxCols) {
			l = append(l, anyColumn(fmt.Sprint("c", i), next))
		}
		r, err := Fill(l, anyRow(l, next(len(l)+1), next))
		if err != api.OK {
			continue
		}
		filled++
		takenByAll(t, l, r)
		more := l
		for i := range api.MaxCols {
			if m, err := Add(more, anyColumn(fmt.Sprint("d", i), next)); err == api.OK {
				more = m
				added++
			}
			padded := Pad(more, r)
			takenByAll(t, more, padded)
			checkPad(t, l, padded, r) // what was there stands as it was
			checkFill(t, more, r, padded, api.OK)
		}
	}
	if filled < 1000 || added < 1000 {
		t.Error("too few", filled, added)
	}
}

// spoil overwrites a list and its spare room.
func spoil[T any](l []T) {
	var zero T
	for i := range l[:cap(l)] {
		l[:cap(l)][i] = zero
	}
}

// told is all of a list and its spare room as a text.
func told[T any](l []T) string { return fmt.Sprint(l[:cap(l)]) }

func TestArgumentsAreNotChanged(t *testing.T) {
	columns := slices.Clip(append(mixed(), column("spare", api.Int, true, whole(77))))
	values := []api.Value{whole(1), text("q"), point(0), boolean(1), text("spare")}
	wasColumns, wasValues := fmt.Sprint(columns), fmt.Sprint(values)
	for n := range len(columns) + 1 {
		for k := range len(values) + 1 {
			l, r := columns[:n], values[:k]
			Good(l)
			Find(l, "b")
			filled, _ := Fill(l, r)
			spoil(filled)
			_ = append(filled, whole(99))
			padded := Pad(l, r)
			spoil(padded)
			_ = append(padded, whole(99))
			more, _ := Add(l, column("e", api.Int, false, null()))
			spoil(more)
			_ = append(more, column("f", api.Int, false, null()))
			if told(l) != wasColumns || told(r) != wasValues {
				t.Fatal(n, k, columns, values)
			}
		}
	}
}

func TestAnswersAreNewMemory(t *testing.T) {
	l, r := mixed(), []api.Value{whole(1), text("q")}
	first, _ := Fill(l, r)
	second, _ := Fill(l, r)
	third, fourth := Pad(l, r), Pad(l, r)
	was := fmt.Sprint(second)
	spoil(first)
	spoil(third)
	if fmt.Sprint(second) != was || fmt.Sprint(fourth) != was {
		t.Error("rows", second, fourth)
	}
	c := column("e", api.Int, false, null())
	one, _ := Add(l, c)
	other, _ := Add(l, c)
	spoil(one)
	if !oneColumns(other, append(mixed(), c)) {
		t.Error("columns", other)
	}
}
