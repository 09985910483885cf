package value

import (
	"fmt"
	"math"
	"slices"
	"strings"
	"testing"

	"livery/api"
)

const (
	minusZero = 0x8000000000000000
	canonNaN  = 0x7ff8000000000000
)

func of(b uint64) float64 { return math.Float64frombits(b) }

func boolean(n int64) api.Value { return api.Value{Kind: api.Bool, N: n} }

func whole(n int64) api.Value { return api.Value{Kind: api.Int, N: n} }

func point(b uint64) api.Value { return api.Value{Kind: api.Float, F: of(b)} }

func text(s string) api.Value { return api.Value{Kind: api.Text, S: s} }

func bitsOf(f float64) uint64 { return math.Float64bits(f) }

func longest() string { return strings.Repeat("x", api.MaxText) }

// one tells whether a and b are one bit for bit, which neither == nor Same does.
func one(a, b api.Value) bool {
	return a.Kind == b.Kind && a.N == b.N && bitsOf(a.F) == bitsOf(b.F) && a.S == b.S
}

func oneRow(a, b []api.Value) bool { return slices.EqualFunc(a, b, one) }

// rising are good values, each behind the one ahead of it.
func rising() []api.Value {
	return []api.Value{
		{},
		boolean(0), boolean(1),
		whole(math.MinInt64), whole(math.MinInt64 + 1), whole(-256), whole(-1), whole(0), whole(1), whole(255), whole(256), whole(math.MaxInt64),
		point(bitsOf(math.Inf(-1))), point(bitsOf(-math.MaxFloat64)), point(bitsOf(-1.5)), point(minusZero | 1),
		point(0), point(1), point(bitsOf(1.5)), point(bitsOf(math.MaxFloat64)), point(bitsOf(math.Inf(1))), point(canonNaN),
		text(""), text("\x00"), text("\x00\x00"), text("A"), text("a"), text("a\x00"), text("aa"), text("b"), text(longest()), text("\xff"), text("\xff\xff"),
	}
}

// bad are values that are not good.
func bad() []api.Value {
	l := []api.Value{
		boolean(-1), boolean(2), boolean(256), boolean(257), boolean(math.MinInt64), boolean(math.MaxInt64),
		point(minusZero), point(canonNaN + 1), point(canonNaN - 1), point(canonNaN | minusZero), point(math.MaxUint64),
		text(longest() + "x"), text(strings.Repeat("x", 65536)), text(strings.Repeat("x", 65537)),
	}
	for _, kind := range []int{-1, 5, 6, 255, 256, 257, 258, 259, 260, math.MinInt, math.MaxInt} {
		l = append(l, api.Value{Kind: kind}, api.Value{Kind: kind, N: 1})
	}
	for kind := api.Null; kind <= api.Text; kind++ {
		for _, v := range []api.Value{
			{N: 1}, {N: -1}, {N: math.MinInt64},
			{F: 1}, {F: of(minusZero)}, {F: of(canonNaN)}, {F: math.Inf(-1)}, {F: of(1)},
			{S: "a"}, {S: "\x00"},
		} {
			v.Kind = kind
			if own := kind == api.Float && v.F != 0 || kind == api.Text && v.S != "" || (kind == api.Int || kind == api.Bool && v.N == 1) && v.N != 0; !own {
				l = append(l, v)
			}
		}
	}
	return l
}

func TestName(t *testing.T) {
	for _, s := range []string{"a", "z", "m", "a0", "a9", "a_", "z_0", "abcdefgh", "a_______", "z9999999"} {
		if !Name(s) {
			t.Errorf("Name(%q): false", s)
		}
	}
	for _, s := range []string{"", "0", "9a", "_", "_a", "A", "aB", "Z", "a-b", "a b", " a", "a ", "a\x00", "\x00", "aé", "é", "\xff", "a\xff",
		"abcdefghi", "a________", strings.Repeat("a", 1000)} {
		if Name(s) {
			t.Errorf("Name(%q): true", s)
		}
	}
}

func TestNameByEachByte(t *testing.T) {
	for c := range 256 {
		b := string([]byte{byte(c)})
		first := strings.Contains("abcdefghijklmnopqrstuvwxyz", b)
		if Name(b) != first {
			t.Errorf("Name(%q)", b)
		}
		later := first || strings.Contains("0123456789_", b)
		for _, s := range []string{"q" + b, "qq" + b + "qq", "qqqqqqq" + b} {
			if Name(s) != later {
				t.Errorf("Name(%q)", s)
			}
		}
	}
}

func TestGood(t *testing.T) {
	for _, v := range rising() {
		if !Good(v) {
			t.Errorf("Good(%v): false", v)
		}
	}
	for _, v := range bad() {
		if Good(v) {
			t.Errorf("Good(%v): true", v)
		}
	}
}

func TestCompareOfRisingValues(t *testing.T) {
	l := rising()
	for i, a := range l {
		for k, b := range l {
			want := 0
			if i < k {
				want = -1
			} else if i > k {
				want = 1
			}
			if got := Compare(a, b); got != want {
				t.Errorf("Compare(%v, %v): %d", a, b, got)
			}
			if Same(a, b) != (i == k) {
				t.Errorf("Same(%v, %v)", a, b)
			}
		}
	}
}

// TestCompareFieldByField: fields that are not a kind's own count too, in their order.
func TestCompareFieldByField(t *testing.T) {
	l := []api.Value{
		{Kind: math.MinInt, N: 9, F: 9, S: "z"},
		{Kind: -1},
		{Kind: -1, S: "a"},
		{Kind: 0, N: math.MinInt64, F: 5, S: "z"},
		{Kind: 0, N: -1},
		{Kind: 0, F: -1, S: "z"},
		{Kind: 0},
		{Kind: 0, S: "z"},
		{Kind: 0, F: 1},
		{Kind: 0, F: of(canonNaN)},
		{Kind: 0, N: 1, F: -1},
		{Kind: 3, N: 0, F: 7},
		{Kind: 3, N: 1, F: -7},
		{Kind: 4, N: 0, S: "b"},
		{Kind: 4, N: 1, S: "a"},
		{Kind: 5},
		{Kind: math.MaxInt},
	}
	for i, a := range l {
		for k, b := range l {
			if got := Compare(a, b); (got == -1) != (i < k) || (got == 1) != (i > k) || Same(a, b) != (i == k) {
				t.Errorf("Compare(%v, %v): %d", a, b, got)
			}
		}
	}
}

func TestSameOfNumbersThatAreNotCanonical(t *testing.T) {
	for _, x := range [][2]api.Value{
		{point(0), point(minusZero)},
		{point(canonNaN), point(canonNaN + 1)},
		{point(canonNaN | minusZero), point(canonNaN - 1)},
		{{F: of(minusZero)}, {}},
	} {
		if Compare(x[0], x[1]) != 0 || Compare(x[1], x[0]) != 0 || !Same(x[0], x[1]) {
			t.Error(x)
		}
	}
	if Same(point(0), whole(0)) || Same(text(""), api.Value{}) || Same(boolean(1), whole(1)) {
		t.Error("kinds")
	}
}

func TestEncode(t *testing.T) {
	for _, x := range []struct {
		v    api.Value
		want string
	}{
		{api.Value{}, "\x00"},
		{boolean(0), "\x01\x00"},
		{boolean(1), "\x01\x01"},
		{whole(0), "\x02\x00\x00\x00\x00\x00\x00\x00\x00"},
		{whole(-1), "\x02\xff\xff\xff\xff\xff\xff\xff\xff"},
		{whole(0x0102030405060708), "\x02\x01\x02\x03\x04\x05\x06\x07\x08"},
		{whole(math.MinInt64), "\x02\x80\x00\x00\x00\x00\x00\x00\x00"},
		{whole(math.MaxInt64), "\x02\x7f\xff\xff\xff\xff\xff\xff\xff"},
		{point(0), "\x03\x80\x00\x00\x00\x00\x00\x00\x00"},
		{point(bitsOf(1)), "\x03\xbf\xf0\x00\x00\x00\x00\x00\x00"},
		{point(bitsOf(-1)), "\x03\x40\x0f\xff\xff\xff\xff\xff\xff"},
		{point(canonNaN), "\x03\xff\xf8\x00\x00\x00\x00\x00\x00"},
		{text(""), "\x04\x00\x00"},
		{text("a\x00\xff"), "\x04\x00\x03a\x00\xff"},
		{text(longest()[1:]), "\x04\x00\xff" + longest()[1:]},
		{text(longest()), "\x04\x01\x00" + longest()},
	} {
		if got, err := Encode(x.v); got != x.want || err != api.OK {
			t.Errorf("Encode(%v): %x, %v", x.v, got, err)
		}
	}
	for _, v := range bad() {
		if got, err := Encode(v); got != "" || err != api.ErrForm {
			t.Errorf("Encode(%v): %x, %v", v, got, err)
		}
	}
}

// refused tells of a Decode that should have found nothing.
func refused(t *testing.T, s string, at int) {
	t.Helper()
	if v, size, ok := Decode(s, at); !one(v, api.Value{}) || size != 0 || ok {
		t.Errorf("Decode(%.20x, %d): %v, %d, %v", s, at, v, size, ok)
	}
}

func TestDecodeAtAPlace(t *testing.T) {
	s, ends := "", []int{0}
	for _, v := range rising() {
		e, _ := Encode(v)
		s += e
		ends = append(ends, len(s))
	}
	for i, v := range rising() {
		if got, size, ok := Decode(s, ends[i]); !one(got, v) || size != ends[i+1]-ends[i] || !ok {
			t.Errorf("Decode at %d: %v, %d, %v", ends[i], got, size, ok)
		}
	}
	for _, at := range []int{-1, -2, -len(s), math.MinInt, len(s), len(s) + 1, math.MaxInt, math.MaxInt - 1} {
		refused(t, s, at)
		refused(t, "", at)
	}
	refused(t, "", 0)
}

func TestDecodeOfBytesThatEndEarly(t *testing.T) {
	for _, v := range rising() {
		s, _ := Encode(v)
		for k := range len(s) {
			refused(t, s[:k], 0)
			refused(t, "\x00"+s[:k], 1)
		}
		if got, size, ok := Decode(s+"\xff", 0); !one(got, v) || size != len(s) || !ok {
			t.Errorf("Decode with a byte behind: %v, %d, %v", got, size, ok)
		}
	}
}

func TestDecodeOfNoValue(t *testing.T) {
	for c := range 256 {
		b := string([]byte{byte(c)})
		if c > api.Text {
			refused(t, b, 0)
			refused(t, b+strings.Repeat("\x00", 300), 0)
		}
		if c > 1 {
			refused(t, "\x01"+b, 0)
		}
	}
	for _, s := range []string{
		"\x03\x7f\xff\xff\xff\xff\xff\xff\xff", // -0
		"\x03\x00\x00\x00\x00\x00\x00\x00\x00",
		"\x03\x00\x0f\xff\xff\xff\xff\xff\xfe",
		"\x03\xff\xf0\x00\x00\x00\x00\x00\x01",
		"\x03\xff\xf8\x00\x00\x00\x00\x00\x01",
		"\x03\xff\xff\xff\xff\xff\xff\xff\xff",
		"\x04\x01\x01" + longest() + "x",
		"\x04\xff\xff" + strings.Repeat("x", 65535),
		"\x04\xff\xff",
		"\x04\x00\x01",
		"\x04\x00",
	} {
		refused(t, s, 0)
	}
}

func TestThereAndBack(t *testing.T) {
	for _, v := range rising() {
		s, _ := Encode(v)
		if got, size, ok := Decode(s, 0); !one(got, v) || size != len(s) || !ok {
			t.Errorf("Decode(Encode(%v)): %v, %d, %v", v, got, size, ok)
		}
	}
}

// some are bytes of many kinds, always the same ones.
func some() []string {
	var l []string
	x := uint64(88172645463325252)
	for i := range 6000 {
		x ^= x << 13
		x ^= x >> 7
		x ^= x << 17
		b := []byte{byte(i % 6), byte(x), byte(x >> 8), byte(x >> 16), byte(x >> 24), byte(x >> 32), byte(x >> 40), byte(x >> 48), byte(x >> 56), 7, 7}
		if i%3 > 0 {
			b[1] &= 1
		}
		if i%5 == 0 {
			b[1], b[2] = 0, b[2]&7
		}
		l = append(l, string(b))
	}
	return l
}

func TestBackAndThere(t *testing.T) {
	count := 0
	for _, s := range some() {
		v, size, ok := Decode(s, 0)
		if !ok {
			continue
		}
		count++
		if got, err := Encode(v); got != s[:size] || err != api.OK || !Good(v) {
			t.Errorf("Encode(Decode(%x)): %x, %v", s, got, err)
		}
	}
	if count < 2000 {
		t.Error("too few values", count)
	}
}

func TestRow(t *testing.T) {
	for _, x := range []struct {
		l    []api.Value
		want string
	}{
		{nil, "\x00"},
		{[]api.Value{}, "\x00"},
		{[]api.Value{{}}, "\x01\x00"},
		{[]api.Value{boolean(1), {}, text("ab"), whole(-2)}, "\x04\x01\x01\x00\x04\x00\x02ab\x02\xff\xff\xff\xff\xff\xff\xff\xfe"},
		{make([]api.Value, api.MaxCols), "\x06\x00\x00\x00\x00\x00\x00"},
	} {
		if got, err := Row(x.l); got != x.want || err != api.OK {
			t.Errorf("Row(%v): %x, %v", x.l, got, err)
		}
	}
}

func TestRowOfNoRow(t *testing.T) {
	refused := func(l []api.Value, want api.Errno) {
		if got, err := Row(l); got != "" || err != want {
			t.Errorf("Row of %d: %x, %v", len(l), got, err)
		}
	}
	for _, v := range bad() {
		refused([]api.Value{v}, api.ErrForm)
		refused([]api.Value{{}, whole(1), v}, api.ErrForm)
		refused([]api.Value{v, {}, {}, {}, {}, {}}, api.ErrForm)
		refused([]api.Value{{}, {}, {}, {}, {}, v}, api.ErrForm)
		refused([]api.Value{{}, {}, {}, {}, {}, {}, v}, api.ErrMany)
		refused([]api.Value{v, {}, {}, {}, {}, {}, {}}, api.ErrMany)
	}
	refused(make([]api.Value, api.MaxCols+1), api.ErrMany)
	refused(make([]api.Value, 256), api.ErrMany)
	refused(make([]api.Value, 257), api.ErrMany)
}

func TestValues(t *testing.T) {
	l := rising()
	for i := range l {
		for n := range api.MaxCols + 1 {
			r := l[i:min(i+n, len(l))]
			s, err := Row(r)
			if err != api.OK {
				t.Fatal(err)
			}
			if got, err := Values(s); !oneRow(got, r) || err != api.OK {
				t.Errorf("Values(%.20x): %v, %v", s, got, err)
			}
			for k := range len(s) {
				noValues(t, s[:k])
			}
			for _, more := range []string{"\x00", "\xff", s, strings.Repeat("\x00", 300)} {
				noValues(t, s+more)
			}
		}
	}
}

func noValues(t *testing.T, s string) {
	t.Helper()
	if l, err := Values(s); len(l) != 0 || err != api.ErrForm {
		t.Errorf("Values(%.20x): %v, %v", s, l, err)
	}
}

func TestValuesOfNoRow(t *testing.T) {
	noValues(t, "")
	for c := range 256 {
		if c > api.MaxCols {
			noValues(t, string([]byte{byte(c)})+strings.Repeat("\x00", c))
		}
	}
	noValues(t, "\x01\x05")
	noValues(t, "\x02\x00\x01\x02")
	noValues(t, "\x01\x03\x7f\xff\xff\xff\xff\xff\xff\xff")
	noValues(t, "\x02\x00\x04\x01\x01"+longest()+"x")
	noValues(t, "\x00\x00")
}

// TestValuesBackAndThere: of a row's bytes with one byte changed, whatever is a row's still is just that row's.
func TestValuesBackAndThere(t *testing.T) {
	s, _ := Row([]api.Value{boolean(1), point(bitsOf(-1)), text("\x00\x00"), {}, whole(258)})
	count := 0
	for i := range len(s) {
		for c := range 256 {
			changed := s[:i] + string([]byte{byte(c)}) + s[i+1:]
			l, err := Values(changed)
			if err != api.OK {
				noValues(t, changed)
				continue
			}
			count++
			if got, err := Row(l); got != changed || err != api.OK {
				t.Errorf("Row(Values(%x)): %x, %v", changed, got, err)
			}
		}
	}
	if count < 2000 {
		t.Error("too few rows", count)
	}
}

// risingRows are rows, each behind the one ahead of it.
func risingRows() [][]api.Value {
	return [][]api.Value{
		{},
		{{}},
		{{}, {}},
		{{}, {}, {}, {}, {}, {}, {}, {}},
		{{}, whole(5)},
		{boolean(0), text("z")},
		{boolean(1)},
		{whole(-3), text("z"), text("z")},
		{whole(2)},
		{whole(2), {}},
		{whole(2), text("a")},
		{whole(2), text("a"), boolean(0)},
		{whole(2), text("b")},
		{whole(10)},
		{point(bitsOf(-1))},
		{point(bitsOf(math.Inf(1)))},
		{point(canonNaN)},
		{text("a"), whole(9)},
		{text("a"), whole(10)},
		{text("ab")},
		{{Kind: 7, N: 1}},
	}
}

func checkRows(t *testing.T, l, want [][]api.Value) {
	t.Helper()
	if got := Rows(l); !slices.EqualFunc(got, want, oneRow) {
		t.Errorf("Rows(%v): %v", l, got)
	}
}

func TestRowsOfAnyOrder(t *testing.T) {
	want := risingRows()
	back := risingRows()
	slices.Reverse(back)
	checkRows(t, want, want)
	checkRows(t, back, want)
	x := uint64(88172645463325252)
	for range 200 {
		l := risingRows()
		for i := range l {
			x ^= x << 13
			x ^= x >> 7
			x ^= x << 17
			k := i + int(x%uint64(len(l)-i))
			l[i], l[k] = l[k], l[i]
		}
		checkRows(t, l, want)
	}
}

func TestRowsOfSomeTwice(t *testing.T) {
	a, b, c := []api.Value{whole(1)}, []api.Value{whole(1), {}}, []api.Value{whole(2)}
	checkRows(t, [][]api.Value{c, a, b, a, c, c}, [][]api.Value{a, a, b, c, c, c})
	checkRows(t, nil, nil)
	checkRows(t, [][]api.Value{}, nil)
	checkRows(t, [][]api.Value{nil, {}, nil}, [][]api.Value{{}, {}, {}})
	checkRows(t, [][]api.Value{a, nil}, [][]api.Value{{}, a})
}

// TestRowsOfSameOnes: rows that are the same and not one keep their bits, and are told in one order all the same.
func TestRowsOfSameOnes(t *testing.T) {
	l := [][]api.Value{
		{point(minusZero), whole(1)}, {point(0), whole(0)}, {point(0), whole(1)}, {point(minusZero), whole(0)},
		{point(canonNaN + 1)}, {point(canonNaN)}, {point(canonNaN | minusZero)},
		{point(minusZero)}, {point(0)},
	}
	first := Rows(l)
	for i := range l {
		for k := range l {
			m := slices.Clone(l)
			m[i], m[k] = m[k], m[i]
			checkRows(t, m, first)
		}
	}
	for i := 1; i < len(first); i++ {
		if slices.CompareFunc(first[i-1], first[i], Compare) > 0 {
			t.Error("order", first)
		}
	}
	for _, r := range l {
		if !slices.ContainsFunc(first, func(x []api.Value) bool { return oneRow(x, r) }) {
			t.Error("lost", r)
		}
	}
}

func TestRowsOfMany(t *testing.T) {
	var l [][]api.Value
	values := rising()
	for i := range 3000 {
		r := make([]api.Value, i%4)
		for k := range r {
			r[k] = values[(i*i+7*k*i)%len(values)]
		}
		l = append(l, r)
	}
	got := Rows(l)
	slices.Reverse(l)
	checkRows(t, l, got)
	if len(got) != len(l) || !slices.IsSortedFunc(got, func(a, b []api.Value) int { return slices.CompareFunc(a, b, Compare) }) {
		t.Error("order")
	}
}

// told is all of l and its spare room as a text.
func told(l []api.Value) string { return fmt.Sprint(l[:cap(l)]) }

func TestArgumentsAreNotChanged(t *testing.T) {
	room := []api.Value{text("b"), whole(1), {}, text("spare"), whole(77)}
	r := room[:3]
	was := told(r)
	Row(r)
	if told(r) != was {
		t.Error("Row", told(r))
	}
	other := []api.Value{text("a"), whole(78)}
	outer := [][]api.Value{r, other[:1], other, nil, {whole(99)}}
	l := outer[:3]
	wasOuter := fmt.Sprint(outer)
	Rows(l)
	if told(r) != was || told(other[:1]) != "[{4 0 0 a} {2 78 0 }]" || fmt.Sprint(outer) != wasOuter {
		t.Error("Rows", outer)
	}
}

// spoil overwrites a list and its spare room.
func spoil(l []api.Value) {
	for i := range l[:cap(l)] {
		l[:cap(l)][i] = text("spoilt")
	}
}

func TestAnswersAreNewMemory(t *testing.T) {
	shared := []api.Value{whole(1), whole(2), whole(3)}
	l := [][]api.Value{shared[:2], shared, shared[:2], shared[1:], shared[:0]}
	got, again := Rows(l), Rows(l)
	want := fmt.Sprint(again)
	for i := range got {
		before := fmt.Sprint(got[i+1:])
		spoil(got[i])
		_ = append(got[i], whole(-1))
		if fmt.Sprint(got[i+1:]) != before {
			t.Error("rows of one answer share memory", i)
		}
	}
	for i := range got[:cap(got)] {
		got[:cap(got)][i] = nil
	}
	if fmt.Sprint(again) != want || fmt.Sprint(shared) != "[{2 1 0 } {2 2 0 } {2 3 0 }]" || len(l[0]) != 2 {
		t.Error("shared", again, shared)
	}
	s, _ := Row(shared)
	a, _ := Values(s)
	b, _ := Values(s)
	spoil(a)
	if !oneRow(b, shared) {
		t.Error("Values", b)
	}
}
