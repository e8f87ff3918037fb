// Package bits: numbers in bytes and words. See doc/01-bits.md.
package bits

import "loam/api"

// Get tells the number in the n bytes of b from at on, the lowest byte first.
func Get(b []byte, at, n int) (uint64, api.Errno) {
	if !inside(len(b), at, n) {
		return 0, api.ErrArg
	}
	var v uint64
	for i := range n {
		v |= uint64(b[at+i]) << (8 * i)
	}
	return v, api.OK
}

// Put answers a copy of b in which the n bytes from at on are the lowest of v.
func Put(b []byte, at, n int, v uint64) ([]byte, api.Errno) {
	if !inside(len(b), at, n) {
		return nil, api.ErrArg
	}
	out := make([]byte, len(b))
	copy(out, b)
	for i := range n {
		out[at+i] = byte(v >> (8 * i))
	}
	return out, api.OK
}

// inside tells whether n bytes, as many as a number has, lie at at in so many.
func inside(length, at, n int) bool {
	// The length less n is held against at, as at and n might overflow together.
	return n >= 1 && n <= 8 && at >= 0 && at <= length-n
}

// Sign tells v's lowest bits as a number with a sign.
func Sign(v uint64, bits int) int64 {
	if bits < 1 || bits > 64 {
		return 0
	}
	over := 64 - bits
	// The shift back is of a number with a sign, so that its highest bit is spread.
	return int64(v<<over) >> over
}

// Narrow tells what is left of v in so many bits.
func Narrow(v int64, bits int) int64 { return Sign(uint64(v), bits) }

// Fits tells whether v is the same in so many bits.
func Fits(v int64, bits int) bool { return Narrow(v, bits) == v }

// Field tells the n bits of w from bit at on.
func Field(w uint64, at, n int) uint64 {
	if !within(at, n) {
		return 0
	}
	return w >> at & lowest(n)
}

// With tells w with v's lowest n bits from bit at on.
func With(w uint64, at, n int, v uint64) uint64 {
	if !within(at, n) {
		return w
	}
	mask := lowest(n)
	return w&^(mask<<at) | v&mask<<at
}

// within tells whether n bits from bit at on lie in a word.
func within(at, n int) bool {
	return at >= 0 && at <= 63 && n >= 1 && n <= 64 && at+n <= 64
}

// lowest tells a word whose lowest n bits, 1 to 64, are 1.
func lowest(n int) uint64 { return ^uint64(0) >> (64 - n) }

// Turn tells w turned left by k bits, below 0 to the right.
func Turn(w uint64, k int) uint64 {
	left := uint(k) & 63
	return w<<left | w>>(64-left)
}
