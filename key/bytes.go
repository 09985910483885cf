package key

import (
	"strings"

	"livery/api"
	"livery/float"
)

// A text's end is below whatever may go on in its place, so that a text stands
// ahead of those that it begins.
const (
	zero     = "\x00"
	zeroKept = "\x00\xff"
	textEnd  = "\x00\x01"
)

// sign is the highest bit: turned over, numbers below 0 stand ahead of others.
const sign = 1 << 63

// How many bytes a number has.
const (
	boolSize   = 1
	pointSize  = 8
	wholeSize  = 8
	numberSize = 2
)

// put is the bytes behind the kind's of a good value.
func put(v api.Value) string {
	switch v.Kind {
	case api.Bool:
		return number(uint64(v.N), boolSize)
	case api.Int:
		return number(uint64(v.N)^sign, wholeSize)
	case api.Float:
		return number(float.Bits(v.F), pointSize)
	case api.Text:
		return joined(kept(v.S), textEnd)
	}
	return ""
}

// take is what the bytes behind a kind's tell, all of them.
func take(kind int, s string) (api.Value, bool) {
	switch kind {
	case api.Null:
		return api.Value{Kind: kind}, s == ""
	case api.Bool:
		return api.Value{Kind: kind, N: int64(told(s))}, len(s) == boolSize
	case api.Int:
		return api.Value{Kind: kind, N: int64(told(s) ^ sign)}, len(s) == wholeSize
	case api.Float:
		f, ok := float.From(told(s))
		return api.Value{Kind: kind, F: f}, ok && len(s) == pointSize
	case api.Text:
		text, ok := plain(s)
		return api.Value{Kind: kind, S: text}, ok
	}
	return api.Value{}, false
}

// kept is a text in which no 00 is taken for its end.
func kept(text string) string {
	return strings.ReplaceAll(text, zero, zeroKept)
}

// plain is the text whose bytes in a key s is.
func plain(s string) (string, bool) {
	inside, ended := strings.CutSuffix(s, textEnd)
	if !ended {
		return "", false
	}
	text := strings.ReplaceAll(inside, zeroKept, zero)
	return strings.Clone(text), kept(text) == inside // a piece would keep all of s
}

// number is the lowest size bytes of u, the highest first.
func number(u uint64, size int) string {
	b := make([]byte, size)
	for i := range b {
		b[size-1-i] = byte(u >> (8 * i))
	}
	return string(b)
}

// told is the number whose bytes s is.
func told(s string) uint64 {
	var u uint64
	for i := range len(s) {
		u = u<<8 | uint64(s[i])
	}
	return u
}

// joined is the parts, one behind the other.
func joined(parts ...string) string {
	var b strings.Builder
	for _, p := range parts {
		b.WriteString(p)
	}
	return b.String()
}
