package value

import (
	"math"
	"strings"

	"livery/api"
	"livery/float"
)

// held is a value, as its kind looks at it.
type held api.Value

// source is bytes, of which the first ones are what stands behind a kind's byte.
type source string

// kind is what a kind of values does.
type kind struct {
	good func(held) bool
	put  func(held) string              // the bytes behind the kind's
	take func(source) (held, int, bool) // what they tell, and how many they are
}

// kinds is what each kind does.
func kinds() map[int]kind {
	return map[int]kind{
		api.Null:  {held.goodNull, held.putNull, source.takeNull},
		api.Bool:  {held.goodBool, held.putBool, source.takeBool},
		api.Int:   {held.goodInt, held.putInt, source.takeInt},
		api.Float: {held.goodFloat, held.putFloat, source.takeFloat},
		api.Text:  {held.goodText, held.putText, source.takeText},
	}
}

func (v held) goodNull() bool { return v.N == 0 && v.noPoint() && v.S == "" }

func (v held) goodBool() bool { return (v.N == 0 || v.N == 1) && v.noPoint() && v.S == "" }

func (v held) goodInt() bool { return v.noPoint() && v.S == "" }

func (v held) goodFloat() bool { return v.N == 0 && float.Is(v.F) && v.S == "" }

func (v held) goodText() bool { return v.N == 0 && v.noPoint() && len(v.S) <= api.MaxText }

// noPoint tells whether F is 0 bit for bit: -0 is told from it here.
func (v held) noPoint() bool { return math.Float64bits(v.F) == 0 }

func (v held) putNull() string { return "" }

func (v held) putBool() string { return bigEndian(uint64(v.N), 1) }

func (v held) putInt() string { return bigEndian(uint64(v.N), 8) }

func (v held) putFloat() string { return bigEndian(float.Bits(v.F), 8) }

func (v held) putText() string { return bigEndian(uint64(len(v.S)), 2) + v.S }

func (s source) takeNull() (held, int, bool) {
	return held{Kind: api.Null}, 0, true
}

func (s source) takeBool() (held, int, bool) {
	u, ok := s.number(1)
	return held{Kind: api.Bool, N: int64(u)}, 1, ok
}

func (s source) takeInt() (held, int, bool) {
	u, ok := s.number(8)
	return held{Kind: api.Int, N: int64(u)}, 8, ok
}

func (s source) takeFloat() (held, int, bool) {
	u, ok := s.number(8)
	f, canonical := float.From(u)
	return held{Kind: api.Float, F: f}, 8, ok && canonical
}

func (s source) takeText() (held, int, bool) {
	u, ok := s.number(2)
	end := 2 + int(u)
	if !ok || end > len(s) {
		return held{}, 0, false
	}
	return held{Kind: api.Text, S: strings.Clone(string(s[2:end]))}, end, true // a piece would keep all of s
}

// number is the whole number that the first size bytes tell, the highest first.
func (s source) number(size int) (uint64, bool) {
	if len(s) < size {
		return 0, false
	}
	var u uint64
	for i := range size {
		u = u<<8 | uint64(s[i])
	}
	return u, true
}

// bigEndian is the lowest size bytes of u, the highest first.
func bigEndian(u uint64, size int) string {
	b := make([]byte, size)
	for i := range b {
		b[size-1-i] = byte(u >> (8 * i))
	}
	return string(b)
}
