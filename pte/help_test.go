package pte_test

import (
	"fmt"
	"math"
	"strconv"
	"testing"
)

// The model writes an entry out as 32 digits, the highest first, and takes its parts by where they stand, so that it shares no way of reckoning with the package.

// digits: x written out.
func digits(x uint32) string { return fmt.Sprintf("%032b", x) }

// worth: what some digits are worth.
func worth(t *testing.T, text string) uint32 {
	t.Helper()
	x, e := strconv.ParseUint(text, 2, 32)
	if e != nil {
		t.Fatal(e)
	}
	return uint32(x)
}

// part: the bits of x from low to high, both included.
func part(t *testing.T, x uint32, low, high int) uint32 {
	t.Helper()
	return worth(t, digits(x)[31-high:32-low])
}

// digit: how yes and no are written.
func digit(yes bool) string {
	if yes {
		return "1"
	}
	return "0"
}

// made: the entry with these parts.
func made(t *testing.T, valid bool, prot int, modified bool, frame uint32) uint32 {
	t.Helper()
	two := fmt.Sprintf("%02b", ((prot%4)+4)%4)
	return worth(t, digit(valid)+"00"+two+digit(modified)+"00000"+digits(frame)[11:])
}

// allowed: who may do what, by protections: of each, what the kernel may, and what the user may.
var allowed = [4][2]string{{"", ""}, {"rw", ""}, {"rw", "r"}, {"rw", "rw"}}

// entries: each bit by itself, each bit missing, bits that say nothing, and mixed ones.
func entries() []uint32 {
	list := []uint32{0, math.MaxUint32, 0x001fffff, 0x03e00000, 0x60000000, 0x63e00000, 0x9c1fffff, 0x98000003, 0x94001234, 0x7fffffff, 0x12345678, 0xedcba987, 0xa5a5a5a5, 0x5a5a5a5a}
	for i := range 32 {
		list = append(list, 1<<i, math.MaxUint32-1<<i, 1<<i-1)
	}
	x := uint32(1)
	for range 300 {
		x = x*1664525 + 1013904223
		list = append(list, x)
	}
	return list
}

// frames: within 21 bits, and beyond them.
var frames = []uint32{0, 1, 2, 3, 0x1234, 0xfffff, 0x100000, 0x155555, 0x0aaaaa, 0x1ffffe, 0x1fffff, 0x200000, 0x200001, 0x3fffff, 0x04000000, 0x08000000, 0x10000000, 0x7fffffff, 0x80000000, 0x80000001, 0xffe00000, 0xffffffff}

// greatest: the greatest frame of 21 bits.
const greatest = 0x1fffff

// protections: the four, and ones beyond them.
var protections = []int{0, 1, 2, 3, 4, 5, 6, 7, 8, 11, 31, 32, 0x7ffffffe, -1, -2, -3, -4, -5, -8, math.MinInt32, math.MaxInt32, math.MinInt, math.MinInt + 1, math.MaxInt - 1, math.MaxInt}

// addresses: within a page, at its edges, and far.
func addresses() []uint32 {
	list := []uint32{0, 1, 2, 0x55, 0xaa, 0xff, 0x100, 0x1fe, 0x1ff, 0x200, 0x201, 0x3ff, 0x400, 0x12345678, 0x7fffffff, 0x80000000, 0x80000201, 0xfffffe00, 0xffffffff}
	for i := range 32 {
		list = append(list, 1<<i)
	}
	return list
}

var either = []bool{false, true}
