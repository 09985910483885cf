package float

import (
	"fmt"
	"math"
	"slices"
	"testing"
)

const (
	plusInf   = 0x7ff0000000000000
	minusInf  = 0xfff0000000000000
	minusZero = 0x8000000000000000
	canonNaN  = 0x7ff8000000000000
)

func of(b uint64) float64 { return math.Float64frombits(b) }

func bitsOf(f float64) uint64 { return math.Float64bits(f) }

// nans are the bits of NaNs, quiet and signalling, with both signs; the canonical one is not among them.
func nans() []uint64 {
	return []uint64{0x7ff0000000000001, 0x7ff7ffffffffffff, 0x7ff8000000000001, 0x7fffffffffffffff,
		0xfff0000000000001, 0xfff7ffffffffffff, 0xfff8000000000000, 0xfff8000000000001, 0xffffffffffffffff}
}

// rising are bits of canonical numbers, each behind the one ahead of it.
func rising() []uint64 {
	return []uint64{
		minusInf,
		0xffefffffffffffff, // the least finite number
		0xffeffffffffffffe, // and the one beside it
		bitsOf(-2), bitsOf(-1.5), bitsOf(-1),
		0x8010000000000001, 0x8010000000000000, // beside the greatest negative normal number
		0x800fffffffffffff, // and the least subnormal one
		0x8000000000000002, 0x8000000000000001,
		0,
		1, 2,
		0x000fffffffffffff, 0x0010000000000000, 0x0010000000000001,
		0x3fefffffffffffff, 0x3ff0000000000000, 0x3ff0000000000001, // around 1
		bitsOf(1.5), bitsOf(2), bitsOf(1e300),
		0x7feffffffffffffe, 0x7fefffffffffffff,
		plusInf,
		canonNaN,
	}
}

// some are many bits of all kinds of numbers, always the same ones.
func some() []uint64 {
	l := append(append(rising(), nans()...), minusZero)
	x := uint64(88172645463325252)
	for range 3000 {
		x ^= x << 13
		x ^= x >> 7
		x ^= x << 17
		l = append(l, x, x&0x800fffffffffffff, x|plusInf) // any, subnormal, NaN
	}
	return l
}

// wantCanon says the canonical bits by the bits alone.
func wantCanon(b uint64) uint64 {
	switch {
	case b&0x7fffffffffffffff > plusInf:
		return canonNaN
	case b == minusZero:
		return 0
	}
	return b
}

// wantCompare says the order by bits as sign and size, with no number held against another.
func wantCompare(a, b uint64) int {
	x, y := place(wantCanon(a)), place(wantCanon(b))
	switch {
	case x < y:
		return -1
	case x > y:
		return 1
	}
	return 0
}

func place(b uint64) int64 {
	if b>>63 == 1 {
		return -int64(b & 0x7fffffffffffffff)
	}
	return int64(b)
}

func TestCanonAndIs(t *testing.T) {
	for _, b := range some() {
		if got := bitsOf(Canon(of(b))); got != wantCanon(b) {
			t.Errorf("Canon(%016x): %016x", b, got)
		}
		if got := Is(of(b)); got != (b == wantCanon(b)) {
			t.Errorf("Is(%016x): %v", b, got)
		}
	}
	for _, b := range nans() {
		if bitsOf(Canon(of(b))) != canonNaN || Is(of(b)) {
			t.Errorf("NaN %016x", b)
		}
	}
	if !Is(of(canonNaN)) || !Is(0) || Is(of(minusZero)) || bitsOf(Canon(of(minusZero))) != 0 {
		t.Error("the canonical ones")
	}
}

func TestCompareOfRisingNumbers(t *testing.T) {
	l := rising()
	for i, a := range l {
		for k, b := range l {
			want := 0
			if i < k {
				want = -1
			} else if i > k {
				want = 1
			}
			if got := Compare(of(a), of(b)); got != want {
				t.Errorf("Compare(%016x, %016x): %d", a, b, got)
			}
		}
	}
}

func TestCompareOfEqualOnes(t *testing.T) {
	if Compare(0, of(minusZero)) != 0 || Compare(of(minusZero), 0) != 0 {
		t.Error("0 and -0")
	}
	for _, a := range nans() {
		for _, b := range append(nans(), canonNaN) {
			if Compare(of(a), of(b)) != 0 || Compare(of(b), of(a)) != 0 {
				t.Errorf("NaNs %016x, %016x", a, b)
			}
		}
		for _, b := range []uint64{minusInf, 0, minusZero, plusInf} {
			if Compare(of(a), of(b)) != 1 || Compare(of(b), of(a)) != -1 {
				t.Errorf("NaN %016x, %016x", a, b)
			}
		}
	}
}

func TestCompareOfMany(t *testing.T) {
	l := some()
	for i, a := range l {
		b := l[(i*7+1)%len(l)]
		if got := Compare(of(a), of(b)); got != wantCompare(a, b) {
			t.Errorf("Compare(%016x, %016x): %d", a, b, got)
		}
	}
}

func TestBits(t *testing.T) {
	for _, x := range []struct{ b, want uint64 }{
		{0, 0x8000000000000000},
		{minusZero, 0x8000000000000000},
		{1, 0x8000000000000001},
		{0x8000000000000001, 0x7ffffffffffffffe},
		{0x3ff0000000000000, 0xbff0000000000000},
		{0xbff0000000000000, 0x400fffffffffffff},
		{0x7fefffffffffffff, 0xffefffffffffffff},
		{0xffefffffffffffff, 0x0010000000000000},
		{plusInf, 0xfff0000000000000},
		{minusInf, 0x000fffffffffffff},
		{canonNaN, 0xfff8000000000000},
	} {
		if got := Bits(of(x.b)); got != x.want {
			t.Errorf("Bits(%016x): %016x", x.b, got)
		}
	}
	for _, b := range nans() {
		if got := Bits(of(b)); got != 0xfff8000000000000 {
			t.Errorf("Bits of NaN %016x: %016x", b, got)
		}
	}
}

func TestFrom(t *testing.T) {
	for _, b := range rising() {
		u := b ^ 1<<63
		if b>>63 == 1 {
			u = ^b
		}
		if f, ok := From(u); !ok || bitsOf(f) != b {
			t.Errorf("From(%016x): %016x, %v", u, bitsOf(f), ok)
		}
	}
}

func TestFromOfNoNumber(t *testing.T) {
	for _, u := range []uint64{
		0, 1, 0x0007ffffffffffff, 0x0008000000000000, 0x000ffffffffffffe, // NaNs with a sign
		0x7fffffffffffffff,                                                         // -0
		0xfff0000000000001, 0xfff7ffffffffffff, 0xfff8000000000001, math.MaxUint64, // NaNs that aren't canonical
	} {
		if f, ok := From(u); ok || bitsOf(f) != 0 {
			t.Errorf("From(%016x): %016x, %v", u, bitsOf(f), ok)
		}
	}
}

func TestFromOfAnyBits(t *testing.T) {
	for _, u := range some() {
		f, ok := From(u)
		if ok && (!Is(f) || Bits(f) != u) {
			t.Errorf("From(%016x): %016x", u, bitsOf(f))
		}
		if !ok && bitsOf(f) != 0 {
			t.Errorf("From(%016x): %016x beside false", u, bitsOf(f))
		}
	}
}

func TestNext(t *testing.T) {
	for _, x := range []struct{ b, want uint64 }{
		{minusInf, 0xffefffffffffffff},
		{0xffefffffffffffff, 0xffeffffffffffffe},
		{0xbff0000000000000, 0xbfefffffffffffff},
		{0x8010000000000000, 0x800fffffffffffff},
		{0x8000000000000002, 0x8000000000000001},
		{0x8000000000000001, 0},
		{minusZero, 1},
		{0, 1},
		{1, 2},
		{0x000fffffffffffff, 0x0010000000000000},
		{0x3fefffffffffffff, 0x3ff0000000000000},
		{0x7feffffffffffffe, 0x7fefffffffffffff},
		{0x7fefffffffffffff, plusInf},
		{plusInf, canonNaN},
	} {
		if f, ok := Next(of(x.b)); !ok || bitsOf(f) != x.want {
			t.Errorf("Next(%016x): %016x, %v", x.b, bitsOf(f), ok)
		}
	}
	for _, b := range append(nans(), canonNaN) {
		if f, ok := Next(of(b)); ok || bitsOf(f) != 0 {
			t.Errorf("Next of NaN %016x: %016x, %v", b, bitsOf(f), ok)
		}
	}
}

func TestNextOfMany(t *testing.T) {
	for _, b := range some() {
		a := of(b)
		if math.IsNaN(a) || math.IsInf(a, 1) {
			continue
		}
		want := bitsOf(math.Nextafter(a, math.Inf(1)) + 0) // + 0 makes 0 of -0
		if f, ok := Next(a); !ok || bitsOf(f) != want {
			t.Errorf("Next(%016x): %016x, %v", b, bitsOf(f), ok)
		}
	}
}

func TestMinAndMax(t *testing.T) {
	for i, x := range []struct{ l, want []uint64 }{ // want: the first, the last
		{[]uint64{bitsOf(7)}, []uint64{bitsOf(7), bitsOf(7)}},
		{[]uint64{bitsOf(1), bitsOf(2), bitsOf(-3)}, []uint64{bitsOf(-3), bitsOf(2)}},
		{[]uint64{bitsOf(2), bitsOf(1), bitsOf(2), bitsOf(1)}, []uint64{bitsOf(1), bitsOf(2)}},
		{[]uint64{minusZero}, []uint64{0, 0}},
		{[]uint64{minusZero, 0}, []uint64{0, 0}},
		{[]uint64{0, minusZero}, []uint64{0, 0}},
		{[]uint64{0xfff8000000000001}, []uint64{canonNaN, canonNaN}},
		{[]uint64{0x7ff0000000000001, plusInf}, []uint64{plusInf, canonNaN}},
		{[]uint64{bitsOf(5), 0xffffffffffffffff, bitsOf(4)}, []uint64{bitsOf(4), canonNaN}},
		{[]uint64{0xffffffffffffffff, minusInf, plusInf}, []uint64{minusInf, canonNaN}},
		{[]uint64{plusInf, 0x7fefffffffffffff}, []uint64{0x7fefffffffffffff, plusInf}},
		{[]uint64{1, 0x8000000000000001, minusZero}, []uint64{0x8000000000000001, 1}},
	} {
		var l []float64
		for _, b := range x.l {
			l = append(l, of(b))
		}
		a, ok := Min(l)
		z, is := Max(l)
		if !ok || !is || bitsOf(a) != x.want[0] || bitsOf(z) != x.want[1] {
			t.Errorf("%d: %016x %v, %016x %v", i, bitsOf(a), ok, bitsOf(z), is)
		}
		for k, f := range l {
			if bitsOf(f) != x.l[k] {
				t.Errorf("%d: what was handed in changed at %d", i, k)
			}
		}
	}
}

func TestMinAndMaxOfNone(t *testing.T) {
	for _, l := range [][]float64{nil, {}, []float64{1, 2}[:0]} {
		for _, call := range []func([]float64) (float64, bool){Min, Max} {
			if f, ok := call(l); ok || bitsOf(f) != 0 {
				t.Error(f, ok)
			}
		}
	}
}

func TestMinAndMaxOfEveryOrder(t *testing.T) {
	l := rising()
	for turn := range l {
		var turned []float64
		for i := range l {
			turned = append(turned, of(l[(i+turn)%len(l)]))
		}
		for range 2 {
			a, _ := Min(turned)
			z, _ := Max(turned)
			if bitsOf(a) != minusInf || bitsOf(z) != canonNaN {
				t.Error(turn, a, z)
			}
			slices.Reverse(turned)
		}
	}
}

func TestText(t *testing.T) {
	for _, x := range []struct {
		b    uint64
		want string
	}{
		{0, "0000000000000000"},
		{minusZero, "0000000000000000"},
		{1, "0000000000000001"},
		{0x8000000000000001, "8000000000000001"},
		{0x000fffffffffffff, "000fffffffffffff"},
		{bitsOf(1), "3ff0000000000000"},
		{bitsOf(-2), "c000000000000000"},
		{bitsOf(0.1), "3fb999999999999a"},
		{plusInf, "7ff0000000000000"},
		{minusInf, "fff0000000000000"},
		{0x7fefffffffffffff, "7fefffffffffffff"},
		{0xffffffffffffffff, "7ff8000000000000"},
	} {
		if got := Text(of(x.b)); got != x.want {
			t.Errorf("Text(%016x): %q", x.b, got)
		}
	}
	for _, b := range some() {
		if got := Text(of(b)); got != fmt.Sprintf("%016x", wantCanon(b)) {
			t.Errorf("Text(%016x): %q", b, got)
		}
	}
}

func TestParse(t *testing.T) {
	for _, b := range some() {
		f, ok := Parse(fmt.Sprintf("%016x", b))
		if b == wantCanon(b) {
			if !ok || bitsOf(f) != b {
				t.Errorf("Parse(%016x): %016x, %v", b, bitsOf(f), ok)
			}
		} else if ok || bitsOf(f) != 0 {
			t.Errorf("Parse(%016x), which is no Text: %016x, %v", b, bitsOf(f), ok)
		}
	}
}

func TestParseOfNoText(t *testing.T) {
	for _, s := range []string{
		"", "0", "000000000000000", "00000000000000000", "3ff00000000000000", "03ff0000000000000",
		"8000000000000000", "7ff8000000000001", "7ff0000000000001", "fff8000000000000", "ffffffffffffffff",
		"7FF8000000000000", "3FF0000000000000", "3ff000000000000A", "C000000000000000",
		"3ff000000000000g", "3ff000000000000`", "3ff000000000000/", "3ff000000000000:", "3ff000000000000@",
		"+ff0000000000000", "-ff0000000000000", "0x3ff00000000000", "3ff0_00000000000",
		" 3ff000000000000", "3ff000000000000 ", "3ff000000000000\n", "3ff000000000000\x00",
		"3ff0000000000\u00e9\x80", "3ff000000000000\xff", "\xff\xff\xff\xff\xff\xff\xff\xff\xff\xff\xff\xff\xff\xff\xff\xff",
		"1", "NaN", "Inf", "1.0000000000000e0",
	} {
		if f, ok := Parse(s); ok || bitsOf(f) != 0 {
			t.Errorf("Parse(%q): %016x, %v", s, bitsOf(f), ok)
		}
	}
}

func TestParseOfEveryByte(t *testing.T) {
	for c := range 256 {
		for at := range 16 {
			s := []byte("3ff0000000000000")
			s[at] = byte(c)
			f, ok := Parse(string(s))
			isDigit := '0' <= c && c <= '9' || 'a' <= c && c <= 'f'
			if ok && (!isDigit || Text(f) != string(s)) || !ok && isDigit {
				t.Errorf("Parse(%q): %v, %v", s, f, ok)
			}
		}
	}
}

func TestOrderOfBits(t *testing.T) {
	l := some()
	for i, a := range l {
		for _, k := range []int{i, i + 1, i * 3, i * 31, i*977 + 5} {
			b := l[k%len(l)]
			if (Bits(of(a)) < Bits(of(b))) != (Compare(of(a), of(b)) < 0) || (Bits(of(a)) < Bits(of(b))) != (wantCompare(a, b) < 0) {
				t.Errorf("Bits(%016x), Bits(%016x)", a, b)
			}
		}
	}
	for _, a := range rising() {
		for _, b := range append(append(rising(), nans()...), minusZero) {
			if (Bits(of(a)) < Bits(of(b))) != (wantCompare(a, b) < 0) || (Bits(of(a)) == Bits(of(b))) != (wantCompare(a, b) == 0) {
				t.Errorf("Bits(%016x), Bits(%016x)", a, b)
			}
		}
	}
}

func TestThereAndBack(t *testing.T) {
	for _, b := range some() {
		if f, ok := From(Bits(of(b))); !ok || bitsOf(f) != wantCanon(b) {
			t.Errorf("From of Bits of %016x: %016x, %v", b, bitsOf(f), ok)
		}
		if f, ok := Parse(Text(of(b))); !ok || bitsOf(f) != wantCanon(b) {
			t.Errorf("Parse of Text of %016x: %016x, %v", b, bitsOf(f), ok)
		}
	}
}
