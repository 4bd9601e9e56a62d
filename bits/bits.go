// Package bits is layer 1: numbers of one, two and four bytes, and their condition codes. See shared/doc/01-bits.md.
package bits

import "camshaft/api"

// Mask: the bits of a size; of a size that can't be none.
func Mask(size int) uint32 {
	switch size {
	case 1:
		return 0xff
	case 2:
		return 0xffff
	case 4:
		return 0xffffffff
	}
	return 0
}

// Top: the highest bit of a size.
func Top(size int) uint32 {
	m := Mask(size)
	return m &^ (m >> 1)
}

// Neg: whether a number of a size has its highest bit.
func Neg(x uint32, size int) bool { return x&Top(size) != 0 }

// Extend: a number of a size with its sign, in four bytes.
func Extend(x uint32, size int) uint32 {
	if Neg(x, size) {
		return x | ^Mask(size)
	}
	return x & Mask(size)
}

// Signs: N and Z of a number.
func Signs(x uint32, size int) api.Flags {
	return api.Flags{N: Neg(x, size), Z: x&Mask(size) == 0}
}

// Add: a and b, and one more, if there is a carry.
func Add(a, b uint32, carry bool, size int) (uint32, api.Flags) {
	x, f := fit(signed(a, size)+signed(b, size)+one(carry), size)
	f.C = plain(a, size)+plain(b, size)+one(carry) > plain(Mask(size), size)
	return x, f
}

// Sub: b taken from a, and one more, if there is a borrow.
func Sub(a, b uint32, borrow bool, size int) (uint32, api.Flags) {
	x, f := fit(signed(a, size)-signed(b, size)-one(borrow), size)
	f.C = plain(b, size)+one(borrow) > plain(a, size)
	return x, f
}

// Mul: a times b; V: it doesn't fit.
func Mul(a, b uint32, size int) (uint32, api.Flags) {
	return fit(signed(a, size)*signed(b, size), size)
}

// Div: a by b, towards nothing; V: it doesn't fit, or b is nothing: then it is a.
func Div(a, b uint32, size int) (uint32, api.Flags, bool) {
	by := signed(b, size)
	if by == 0 {
		f := Signs(a, size)
		f.V = true
		return a & Mask(size), f, false
	}
	// Only the least number by -1 doesn't fit, and the rest of that quotient is the least number again: the rest of a.
	x, f := fit(signed(a, size)/by, size)
	return x, f, true
}

// Less: whether a is less than b, with their signs, and without them.
func Less(a, b uint32, size int) (bool, bool) {
	return signed(a, size) < signed(b, size), plain(a, size) < plain(b, size)
}

// Compare: the codes of a against b.
func Compare(a, b uint32, size int) api.Flags {
	n, c := Less(a, b, size)
	return api.Flags{N: n, Z: plain(a, size) == plain(b, size), C: c}
}

// Put: a number with its lowest bytes, of a size, those of another one.
func Put(old, x uint32, size int) uint32 {
	m := Mask(size)
	return old&^m | x&m
}

// plain and signed have 64 bits, so that no sum, difference or product of two of them wraps round.

// plain: the rest of x, without a sign.
func plain(x uint32, size int) int64 { return int64(x & Mask(size)) }

// signed: the rest of x, with its sign.
func signed(x uint32, size int) int64 { return int64(int32(Extend(x, size))) }

// one: what a carry, or a borrow, counts.
func one(carry bool) int64 {
	if carry {
		return 1
	}
	return 0
}

// fit: the rest of what was reckoned with signs; its Signs; V: it doesn't fit.
func fit(n int64, size int) (uint32, api.Flags) {
	x := uint32(n) & Mask(size)
	f := Signs(x, size)
	f.V = signed(x, size) != n
	return x, f
}
