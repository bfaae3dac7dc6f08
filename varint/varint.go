// Package varint is layer 1: see shared/doc/01-varint.md.
package varint

import (
	"agate/api"
)

const (
	// more is what each byte but the last one has beside its seven bits.
	more = 0x80
	// most is how many bytes hold 64 bits: nine of seven, and one bit more.
	most = 10
)

// Put is a number's least writing.
func Put(v uint64) string {
	var b []byte
next:
	if v < more {
		return string(append(b, byte(v)))
	}
	b = append(b, byte(v%more)+more)
	v /= more
	goto next
}

// Size is how many bytes that has.
func Size(v uint64) int {
	n := 1
next:
	if v < more {
		return n
	}
	v /= more
	n++
	goto next
}

// Read is the number with which a text begins.
func Read(b string) (uint64, int, api.Errno) {
	var v uint64
	n := 0
next:
	if n == len(b) {
		return 0, 0, api.ErrShort
	}
	c := b[n]
	// The tenth byte holds the 64th bit alone: one above 1 is too great, or says that an eleventh follows.
	if n == most-1 && c > 1 {
		return 0, 0, api.ErrLong
	}
	v |= uint64(c%more) << (7 * uint(n))
	n++
	if c < more {
		return v, n, api.OK
	}
	goto next
}

// Zig is a whole number, made one from 0 on.
func Zig(n int64) uint64 {
	if n < 0 {
		// -2n - 1, reckoned of -n - 1, as the least int64 has no -n.
		return 2*uint64(-(n+1)) + 1
	}
	return 2 * uint64(n)
}

// Unzig is the whole number of which that was made.
func Unzig(v uint64) int64 {
	half := int64(v / 2)
	if v%2 == 1 {
		return -half - 1
	}
	return half
}
