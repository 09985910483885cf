package key

import (
	"math"
	"strings"
	"testing"

	"livery/api"
	"livery/value"
)

const (
	minusZero = 0x8000000000000000
	canonNaN  = 0x7ff8000000000000
)

func of(b uint64) float64 { return math.Float64frombits(b) }

func bitsOf(f float64) uint64 { return math.Float64bits(f) }

func boolean(n int64) api.Value { return api.Value{Kind: api.Bool, N: n} }

func whole(n int64) api.Value { return api.Value{Kind: api.Int, N: n} }

func point(b uint64) api.Value { return api.Value{Kind: api.Float, F: of(b)} }

func text(s string) api.Value { return api.Value{Kind: api.Text, S: s} }

func longest(s string) string { return strings.Repeat(s, api.MaxText/len(s)) }

// one tells whether a and b are one bit for bit, which neither == nor value.Same does.
func one(a, b api.Value) bool {
	return a.Kind == b.Kind && a.N == b.N && bitsOf(a.F) == bitsOf(b.F) && a.S == b.S
}

// keyed is a value and its key.
type keyed struct {
	v api.Value
	k string
}

// rising are good values with their keys, each behind the one ahead of it.
func rising() []keyed {
	return []keyed{
		{api.Value{}, "\x00"},
		{boolean(0), "\x01\x00"},
		{boolean(1), "\x01\x01"},
		{whole(math.MinInt64), "\x02\x00\x00\x00\x00\x00\x00\x00\x00"},
		{whole(math.MinInt64 + 1), "\x02\x00\x00\x00\x00\x00\x00\x00\x01"},
		{whole(-256), "\x02\x7f\xff\xff\xff\xff\xff\xff\x00"},
		{whole(-1), "\x02\x7f\xff\xff\xff\xff\xff\xff\xff"},
		{whole(0), "\x02\x80\x00\x00\x00\x00\x00\x00\x00"},
		{whole(1), "\x02\x80\x00\x00\x00\x00\x00\x00\x01"},
		{whole(0x0102030405060708), "\x02\x81\x02\x03\x04\x05\x06\x07\x08"},
		{whole(math.MaxInt64), "\x02\xff\xff\xff\xff\xff\xff\xff\xff"},
		{point(bitsOf(math.Inf(-1))), "\x03\x00\x0f\xff\xff\xff\xff\xff\xff"},
		{point(bitsOf(-math.MaxFloat64)), "\x03\x00\x10\x00\x00\x00\x00\x00\x00"},
		{point(bitsOf(-1)), "\x03\x40\x0f\xff\xff\xff\xff\xff\xff"},
		{point(minusZero | 1), "\x03\x7f\xff\xff\xff\xff\xff\xff\xfe"},
		{point(0), "\x03\x80\x00\x00\x00\x00\x00\x00\x00"},
		{point(1), "\x03\x80\x00\x00\x00\x00\x00\x00\x01"},
		{point(bitsOf(1)), "\x03\xbf\xf0\x00\x00\x00\x00\x00\x00"},
		{point(bitsOf(math.MaxFloat64)), "\x03\xff\xef\xff\xff\xff\xff\xff\xff"},
		{point(bitsOf(math.Inf(1))), "\x03\xff\xf0\x00\x00\x00\x00\x00\x00"},
		{point(canonNaN), "\x03\xff\xf8\x00\x00\x00\x00\x00\x00"},
		{text(""), "\x04\x00\x01"},
		{text("\x00"), "\x04\x00\xff\x00\x01"},
		{text("\x00\x00"), "\x04\x00\xff\x00\xff\x00\x01"},
		{text(longest("\x00")), "\x04" + longest("\x00\xff") + longest("\x00\xff") + "\x00\x01"},
		{text("\x00\x01"), "\x04\x00\xff\x01\x00\x01"},
		{text("\x00\x01\x00\x01"), "\x04\x00\xff\x01\x00\xff\x01\x00\x01"},
		{text("\x00\xff"), "\x04\x00\xff\xff\x00\x01"},
		{text("\x00\xff\x00"), "\x04\x00\xff\xff\x00\xff\x00\x01"},
		{text("\x01"), "\x04\x01\x00\x01"},
		{text("a"), "\x04a\x00\x01"},
		{text("a\x00"), "\x04a\x00\xff\x00\x01"},
		{text("a\x00b"), "\x04a\x00\xffb\x00\x01"},
		{text("a\x00\xff"), "\x04a\x00\xff\xff\x00\x01"},
		{text("a\x01"), "\x04a\x01\x00\x01"},
		{text("aa"), "\x04aa\x00\x01"},
		{text("b"), "\x04b\x00\x01"},
		{text(longest("x")[1:]), "\x04" + longest("x")[1:] + "\x00\x01"},
		{text(longest("x")[1:] + "\x00"), "\x04" + longest("x")[1:] + "\x00\xff\x00\x01"},
		{text(longest("x")), "\x04" + longest("x") + "\x00\x01"},
		{text("\xff"), "\x04\xff\x00\x01"},
		{text("\xff\x00"), "\x04\xff\x00\xff\x00\x01"},
		{text("\xff\xff"), "\x04\xff\xff\x00\x01"},
	}
}

// bad are values that are not good.
func bad() []api.Value {
	l := []api.Value{
		boolean(-1), boolean(2), boolean(256), boolean(257), boolean(math.MinInt64), boolean(math.MaxInt64),
		point(minusZero), point(canonNaN + 1), point(canonNaN - 1), point(canonNaN | minusZero), point(math.MaxUint64),
		text(longest("x") + "x"), text(longest("\x00") + "x"), text(strings.Repeat("x", 70000)),
		{N: 1}, {F: 1}, {F: of(minusZero)}, {F: of(canonNaN)}, {S: "a"},
		{Kind: api.Bool, N: 1, F: 1}, {Kind: api.Bool, S: "a"},
		{Kind: api.Int, N: 1, F: of(minusZero)}, {Kind: api.Int, N: 1, S: "\x00"},
		{Kind: api.Float, N: 1}, {Kind: api.Float, F: 1, S: "a"},
		{Kind: api.Text, N: 1}, {Kind: api.Text, F: of(minusZero), S: "a"},
	}
	for _, kind := range []int{-1, 5, 6, 255, 256, 257, 258, 259, 260, math.MinInt, math.MaxInt} {
		l = append(l, api.Value{Kind: kind}, api.Value{Kind: kind, N: 1}, api.Value{Kind: kind, S: "a"})
	}
	return l
}

// noKeys are bytes that are no value's key.
func noKeys() []string {
	l := []string{
		"", "\x01", "\x02", "\x03", "\x04",
		"\x00\x00", "\x00\x01", "\x00\x00\x01",
		"\x01\x02", "\x01\xff", "\x01\x00\x00", "\x01\x01\x00",
		"\x02\x80\x00\x00\x00\x00\x00\x00", "\x02\x80\x00\x00\x00\x00\x00\x00\x00\x00",
		"\x03\x80\x00\x00\x00\x00\x00\x00", "\x03\x80\x00\x00\x00\x00\x00\x00\x00\x00",
		"\x03\x7f\xff\xff\xff\xff\xff\xff\xff", // the bits of -0
		"\x03\xff\xf8\x00\x00\x00\x00\x00\x01", // NaNs that are not canonical
		"\x03\xff\xf0\x00\x00\x00\x00\x00\x01",
		"\x03\xff\xff\xff\xff\xff\xff\xff\xff",
		"\x03\x00\x00\x00\x00\x00\x00\x00\x00",
		"\x03\x00\x07\xff\xff\xff\xff\xff\xff",
		"\x03\x00\x0f\xff\xff\xff\xff\xff\xfe",
		"\x04\x00", "\x04\x01", "\x04\xff", "\x04a", "\x04a\x00", "\x04a\x01", "\x04a\x00\xff", "\x04a\x00\xff\x01",
		"\x04\x00\x00", "\x04\x00\x02", "\x04a\x00\x02", "\x04a\x00\xfe", "\x04a\x00a",
		"\x04\x00\x00\x01", "\x04a\x00\x00\x01", "\x04a\x00\x02\x00\x01", "\x04a\x00\xfe\x00\x01", "\x04a\x00b\x00\x01", "\x04\x00\xff\x00\x00\x01",
		"\x04\x00\x00\xff\x00\x01", "\x04\x00\x00\xff\xff\x00\x01",
		"\x04\x00\x01\x00", "\x04\x00\x01a", "\x04\x00\x01\xff", "\x04\x00\x01\x00\x01", "\x04a\x00\x01b\x00\x01", "\x04\x00\x01\x00\xff\x00\x01",
		"\x04" + longest("x") + "x\x00\x01",
		"\x04" + longest("x") + "\x00\xff\x00\x01",
		"\x04" + strings.Repeat("\x00\xff", api.MaxText+1) + "\x00\x01",
		"\x04" + strings.Repeat("x", 70000) + "\x00\x01",
	}
	for _, kind := range []byte{5, 6, 127, 128, 255} {
		head := string([]byte{kind})
		l = append(l, head, head+"\x00", head+"\x80\x00\x00\x00\x00\x00\x00\x00", head+"\x00\x01")
	}
	return l
}

func TestOf(t *testing.T) {
	for _, x := range rising() {
		if k, err := Of(x.v); k != x.k || err != api.OK {
			t.Errorf("Of(%v): %x, %v", x.v, k, err)
		}
		if len(x.k) > api.MaxKey {
			t.Errorf("%v: a key of %d bytes", x.v, len(x.k))
		}
	}
}

func TestValue(t *testing.T) {
	for _, x := range rising() {
		if v, err := Value(x.k); !one(v, x.v) || err != api.OK {
			t.Errorf("Value(%x): %v, %v", x.k, v, err)
		}
	}
}

func TestValueOfNoKey(t *testing.T) {
	for _, k := range noKeys() {
		if v, err := Value(k); !one(v, api.Value{}) || err != api.ErrForm {
			t.Errorf("Value(%x): %v, %v", k, v, err)
		}
	}
}

func TestValueOfKeysThatEndEarlyOrGoOn(t *testing.T) {
	for _, x := range rising() {
		for end := range len(x.k) {
			if v, err := Value(x.k[:end]); !one(v, api.Value{}) || err != api.ErrForm {
				t.Errorf("Value(%x): %v, %v", x.k[:end], v, err)
			}
		}
		for _, more := range []string{"\x00", "\x01", "\xff", "\x00\x00", "\x00\x01", "\x00\xff", "a\x00\x01", x.k} {
			if v, err := Value(x.k + more); !one(v, api.Value{}) || err != api.ErrForm {
				t.Errorf("Value(%x): %v, %v", x.k+more, v, err)
			}
		}
	}
}

// back holds Value and Split of any bytes against Of and Entry: each thing has one key.
func back(t *testing.T, s string) {
	t.Helper()
	v, err := Value(s)
	if err == api.OK {
		if k, er := Of(v); k != s || er != api.OK {
			t.Errorf("Of of Value(%x): %x, %v", s, k, er)
		}
	} else if err != api.ErrForm || !one(v, api.Value{}) {
		t.Errorf("Value(%x): %v, %v", s, v, err)
	}
	v, n, err := Split(s)
	if err == api.OK {
		if e, er := Entry(v, n); e != s || er != api.OK {
			t.Errorf("Entry of Split(%x): %x, %v", s, e, er)
		}
	} else if err != api.ErrForm || !one(v, api.Value{}) || n != 0 {
		t.Errorf("Split(%x): %v, %d, %v", s, v, n, err)
	}
}

func TestBackAndThereOfShortBytes(t *testing.T) {
	back(t, "")
	for a := range 256 {
		back(t, string([]byte{byte(a)}))
		for b := range 256 {
			back(t, string([]byte{byte(a), byte(b)}))
		}
	}
}

func TestBackAndThereOfOneByteChanged(t *testing.T) {
	for _, x := range rising() {
		e, _ := Entry(x.v, 258)
		for _, s := range []string{x.k, e} {
			for at := range min(len(s), 40) {
				for c := range 256 {
					b := []byte(s)
					b[at] = byte(c)
					back(t, string(b))
				}
			}
		}
	}
}

func TestBackAndThereOfTexts(t *testing.T) {
	parts := []string{"\x00", "\x01", "\xff", "a"}
	l := []string{""}
	for range 6 {
		var longer []string
		for _, s := range l {
			back(t, "\x04"+s)
			back(t, "\x04"+s+"\x00\x01")
			k, err := Of(text(s))
			v, er := Value(k)
			if err != api.OK || er != api.OK || v.S != s {
				t.Errorf("Value of Of(%q): %q, %v, %v", s, v.S, err, er)
			}
			for _, p := range parts {
				longer = append(longer, s+p)
			}
		}
		l = longer
	}
}

func TestEntry(t *testing.T) {
	for _, x := range rising() {
		for _, y := range []struct {
			n int
			s string
		}{{0, "\x00\x00"}, {1, "\x00\x01"}, {255, "\x00\xff"}, {256, "\x01\x00"}, {258, "\x01\x02"}, {32768, "\x80\x00"}, {65534, "\xff\xfe"}, {65535, "\xff\xff"}} {
			e, err := Entry(x.v, y.n)
			if e != x.k+y.s || err != api.OK {
				t.Errorf("Entry(%v, %d): %x, %v", x.v, y.n, e, err)
			}
			if v, n, err := Split(x.k + y.s); !one(v, x.v) || n != y.n || err != api.OK {
				t.Errorf("Split(%x): %v, %d, %v", x.k+y.s, v, n, err)
			}
		}
	}
}

func TestEntryOfEveryNumber(t *testing.T) {
	before := ""
	for n := range 65536 {
		e, err := Entry(text("a\x00"), n)
		v, m, er := Split(e)
		if err != api.OK || er != api.OK || v.S != "a\x00" || m != n || e <= before {
			t.Fatalf("%d: %x, %v, %v, %d, %v", n, e, err, v, m, er)
		}
		before = e
	}
}

func TestEntryOfNoNumber(t *testing.T) {
	for _, x := range rising() {
		for _, n := range []int{-1, -2, -65536, 65536, 65537, 131071, math.MinInt, math.MaxInt} {
			if e, err := Entry(x.v, n); e != "" || err != api.ErrArg {
				t.Errorf("Entry(%v, %d): %x, %v", x.v, n, e, err)
			}
		}
	}
}

func TestOfWhatIsNotGood(t *testing.T) {
	for _, v := range bad() {
		for name, call := range map[string]func(api.Value) (string, api.Errno){"Of": Of, "Least": Least, "After": After} {
			if s, err := call(v); s != "" || err != api.ErrForm {
				t.Errorf("%s(%v): %x, %v", name, v, s, err)
			}
		}
		for _, n := range []int{0, 5, 65535, -1, 65536} { // of two errors the value's comes first
			if e, err := Entry(v, n); e != "" || err != api.ErrForm {
				t.Errorf("Entry(%v, %d): %x, %v", v, n, e, err)
			}
		}
	}
}

func noEntry(t *testing.T, e string) {
	t.Helper()
	if v, n, err := Split(e); !one(v, api.Value{}) || n != 0 || err != api.ErrForm {
		t.Errorf("Split(%x): %v, %d, %v", e, v, n, err)
	}
}

func TestSplitOfNoEntry(t *testing.T) {
	for _, k := range noKeys() {
		noEntry(t, k+"\x01\x02")
	}
	for _, x := range rising() {
		e := x.k + "\x00\x01"
		for end := range len(e) {
			noEntry(t, e[:end])
		}
		for _, more := range []string{"\x00", "\x01", "\xff", "\x00\x00", "\x00\x01"} {
			noEntry(t, e+more)
		}
	}
	noEntry(t, "\x00")
	noEntry(t, "\x00\x00")
}

func TestLeastAndAfter(t *testing.T) {
	for _, x := range rising() {
		if s, err := Least(x.v); s != x.k+"\x00\x00" || err != api.OK {
			t.Errorf("Least(%v): %x, %v", x.v, s, err)
		}
		if s, err := After(x.v); s != x.k+"\xff\xff\x00" || err != api.OK {
			t.Errorf("After(%v): %x, %v", x.v, s, err)
		}
	}
}

func TestLeastAndAfterHoldAValuesEntries(t *testing.T) {
	l := rising()
	for i, x := range l {
		from, _ := Least(x.v)
		to, _ := After(x.v)
		for k, y := range l {
			for _, n := range []int{0, 1, 255, 256, 65535} {
				e, _ := Entry(y.v, n)
				if (e >= from) != (k >= i) || (e < to) != (k <= i) || e == to {
					t.Errorf("%x: from %x to %x", e, from, to)
				}
			}
		}
	}
}

// standing tells how a stands to b, as value.Compare does.
func standing(less, same bool) int {
	if less {
		return -1
	}
	if same {
		return 0
	}
	return 1
}

func TestOrderOfKeys(t *testing.T) {
	for _, x := range rising() {
		for _, y := range rising() {
			a, _ := Of(x.v)
			b, _ := Of(y.v)
			if standing(a < b, a == b) != value.Compare(x.v, y.v) {
				t.Errorf("%v, %v: %x, %x", x.v, y.v, a, b)
			}
		}
	}
}

func TestOrderOfEntries(t *testing.T) {
	numbers := []int{0, 1, 255, 256, 257, 65535}
	for i, x := range rising() {
		for k, y := range rising() {
			for _, n := range numbers {
				for _, m := range numbers {
					a, _ := Entry(x.v, n)
					b, _ := Entry(y.v, m)
					if standing(a < b, a == b) != standing(i < k || i == k && n < m, i == k && n == m) {
						t.Errorf("%v %d, %v %d: %x, %x", x.v, n, y.v, m, a, b)
					}
				}
			}
		}
	}
}

func TestOrderOfManyTexts(t *testing.T) {
	parts := []string{"", "\x00", "\x01", "\xff", "a"}
	var l []string
	for _, a := range parts {
		for _, b := range parts {
			for _, c := range parts {
				l = append(l, a+b+c)
			}
		}
	}
	for _, s := range l {
		for _, u := range l {
			a, _ := Of(text(s))
			b, _ := Of(text(u))
			if strings.Compare(a, b) != strings.Compare(s, u) {
				t.Errorf("%q, %q: %x, %x", s, u, a, b)
			}
		}
	}
}

func TestOrderOfManyNumbers(t *testing.T) {
	var l []api.Value
	for i := range 64 {
		for _, u := range []uint64{1 << i, 1<<i - 1, ^uint64(1 << i), ^uint64(1<<i - 1)} {
			l = append(l, whole(int64(u)))
			if v := point(u); value.Good(v) {
				l = append(l, v)
			}
		}
	}
	for _, x := range l {
		for _, y := range l {
			a, err := Of(x)
			b, er := Of(y)
			if err != api.OK || er != api.OK || strings.Compare(a, b) != value.Compare(x, y) {
				t.Errorf("%v, %v: %x, %x", x, y, a, b)
			}
		}
		k, _ := Of(x)
		if v, err := Value(k); err != api.OK || !one(v, x) {
			t.Errorf("Value of Of(%v): %v, %v", x, v, err)
		}
	}
}
