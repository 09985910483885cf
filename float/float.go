// Package float is layer 1: numbers with a point in one order. Minus infinity
// stands first, then the finite numbers, infinity, and NaN behind all others.
package float

import (
	"math"
	"strconv"
	"strings"
)

const (
	signBit = uint64(1) << 63
	nanBits = uint64(0x7ff8000000000000)
	digits  = 16
)

// Canon is the one number that stands for all that are equal to f in the order.
func Canon(f float64) float64 {
	switch {
	case math.IsNaN(f):
		return math.Float64frombits(nanBits)
	case f == 0: // -0 too
		return 0
	}
	return f
}

// Is tells whether f is canonical, bit for bit.
func Is(f float64) bool {
	return math.Float64bits(f) == math.Float64bits(Canon(f))
}

// Compare tells how a stands to b in the order: -1 ahead of it, 0 at it, 1 behind it.
func Compare(a, b float64) int {
	switch {
	case math.IsNaN(a) && math.IsNaN(b):
		return 0
	case math.IsNaN(a):
		return 1
	case math.IsNaN(b):
		return -1
	case a < b:
		return -1
	case a > b:
		return 1
	}
	return 0
}

// Bits are bits of f that stand, as whole numbers, in the order of the numbers.
func Bits(f float64) uint64 {
	u := math.Float64bits(Canon(f))
	if u&signBit != 0 {
		return ^u // of negative numbers the greater bits stand for the lesser one
	}
	return u ^ signBit
}

// From is the canonical number whose Bits u is.
func From(u uint64) (float64, bool) {
	b := ^u
	if u&signBit != 0 {
		b = u ^ signBit
	}
	return canonical(b)
}

// canonical is the number with these bits, if it is a canonical one.
func canonical(b uint64) (float64, bool) {
	f := math.Float64frombits(b)
	if !Is(f) {
		return 0, false
	}
	return f, true
}

// Next is the least number behind f in the order.
func Next(f float64) (float64, bool) {
	switch {
	case math.IsNaN(f):
		return 0, false
	case math.IsInf(f, 1): // bits that are no number's Bits lie between it and NaN
		return Canon(math.NaN()), true
	case f == -math.SmallestNonzeroFloat64: // the place of -0, which is none of its own, lies between it and 0
		return 0, true
	}
	return From(Bits(f) + 1)
}

// Min is the first one of l in the order.
func Min(l []float64) (float64, bool) {
	return outermost(l, -1)
}

// Max is the last one of l in the order.
func Max(l []float64) (float64, bool) {
	return outermost(l, 1)
}

// outermost is the one of l that stands farthest to one side; side is what
// Compare answers of a number on that side.
func outermost(l []float64, side int) (float64, bool) {
	if len(l) == 0 {
		return 0, false
	}
	best := l[0]
	for _, f := range l[1:] {
		if Compare(f, best) == side {
			best = f
		}
	}
	return Canon(best), true
}

// Text is the bits of the canonical one of f as hexadecimal digits.
func Text(f float64) string {
	s := strconv.FormatUint(math.Float64bits(Canon(f)), 16)
	return strings.Repeat("0", digits-len(s)) + s
}

// Parse is the number whose Text s is.
func Parse(s string) (float64, bool) {
	if len(s) != digits {
		return 0, false
	}
	var b uint64
	for i := range len(s) {
		d, ok := digit(s[i])
		if !ok {
			return 0, false
		}
		b = b<<4 | d
	}
	return canonical(b)
}

// digit is the worth of a hexadecimal digit; capitals are none, as Text writes none.
func digit(c byte) (uint64, bool) {
	switch {
	case '0' <= c && c <= '9':
		return uint64(c - '0'), true
	case 'a' <= c && c <= 'f':
		return uint64(c-'a') + 10, true
	}
	return 0, false
}
