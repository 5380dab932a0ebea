// Package sym: symbols of a link. See doc/01-sym.md.
package sym

import "strings"

const (
	zero = '0'
	one  = '1'
	tail = '#'
)

// maxBits leaves room in an int: what so many bits mean is never negative.
const maxBits = 62

// Clean answers the longest front of s that is a stream.
func Clean(s string) string {
	return strings.Clone(s[:streamLen(s)])
}

// streamLen tells how many bytes of s are a stream. Symbols are one byte each, and no longer rune begins with one: where a rune that is no symbol begins, the stream ends.
func streamLen(s string) int {
	for i, r := range s {
		if r == tail {
			return i + 1
		}
		if !isBit(r) {
			return i
		}
	}
	return len(s)
}

func isBit(r rune) bool {
	return r == zero || r == one
}

// Common answers the longest front that a and b share. It goes by bytes, since a front may end inside a rune.
func Common(a, b string) string {
	n := 0
	for n < len(a) && n < len(b) && a[n] == b[n] {
		n++
	}
	return strings.Clone(a[:n])
}

// Front tells whether a is a front of b.
func Front(a, b string) bool {
	return strings.HasPrefix(b, a)
}

// Bits answers n's lowest size bits, the highest first; none, if size is not 1 to 62.
func Bits(n, size int) string {
	if size < 1 || size > maxBits {
		return ""
	}
	bits := make([]byte, size)
	for i := range bits {
		// A shift keeps the sign, so a negative n gives the bits of its two's complement.
		bits[i] = zero + byte(n>>(size-1-i)&1)
	}
	return string(bits)
}

// Num answers what 1 to 62 bits mean, the highest first; false of any other text.
func Num(s string) (int, bool) {
	if len(s) < 1 || len(s) > maxBits {
		return 0, false
	}
	n := 0
	for _, r := range s {
		if !isBit(r) {
			return 0, false
		}
		n = n<<1 | int(r-zero)
	}
	return n, true
}

// Turn answers s with another symbol at that place; s, if there is no such place or no symbol stands there.
func Turn(s string, at int) string {
	if at < 0 || at >= len(s) {
		return strings.Clone(s)
	}
	turned := []byte(s)
	turned[at] = other(turned[at])
	return string(turned)
}

func other(b byte) byte {
	switch b {
	case zero:
		return one
	case one, tail:
		return zero
	}
	return b
}

// Whole tells whether s is a stream that ends with its tail.
func Whole(s string) bool {
	return strings.HasSuffix(s, string(tail)) && streamLen(s) == len(s)
}
