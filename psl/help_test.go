package psl_test

import (
	"fmt"
	"math"
	"strconv"
	"testing"

	"camshaft/api"
)

// The model writes a status out as 32 digits, the highest first, and takes its parts by where they stand, so that it shares no way of reckoning with the package.

// digits: x written out.
func digits(x uint32) string { return fmt.Sprintf("%032b", x) }

// worth: what some digits are worth.
func worth(t *testing.T, text string) uint32 {
	t.Helper()
	x, e := strconv.ParseUint(text, 2, 32)
	if e != nil {
		t.Fatal(e)
	}
	return uint32(x)
}

// has: whether the bit i of x is set.
func has(x uint32, i int) bool { return digits(x)[31-i] == '1' }

// level: what stands in the bits 16 to 20.
func level(t *testing.T, x uint32) int {
	t.Helper()
	return int(worth(t, digits(x)[11:16]))
}

// fiveDigits: the lowest five bits of a level, of one below 0 as well.
func fiveDigits(level int) string { return fmt.Sprintf("%05b", (level%32+32)%32) }

// digit: how yes and no are written.
func digit(yes bool) string {
	if yes {
		return "1"
	}
	return "0"
}

// codeDigits: condition codes in the order in which they stand.
func codeDigits(f api.Flags) string {
	return digit(f.N) + digit(f.Z) + digit(f.V) + digit(f.C)
}

// What can be a status; a question mark stands for either digit.
const (
	kernels = "0000?000" + "0?0?????" + "00000000" + "0000????"
	users   = "0000?001" + "01000000" + "00000000" + "0000????"
)

// fits: whether x is written as a pattern says.
func fits(x uint32, pattern string) bool {
	for i, d := range digits(x) {
		if pattern[i] != '?' && pattern[i] != byte(d) {
			return false
		}
	}
	return true
}

// canBe: whether x can be a status.
func canBe(x uint32) bool { return fits(x, kernels) || fits(x, users) }

// mayReturn: the user may always be returned to, the kernel only by itself and at no higher level.
func mayReturn(t *testing.T, from, to uint32) bool {
	t.Helper()
	if fits(to, users) {
		return true
	}
	return fits(to, kernels) && !has(from, 24) && level(t, to) <= level(t, from)
}

// taken: of each branch, whether it is taken by the codes 0000, 0001 .. 1111 (N, Z, V, C).
var taken = map[int]string{
	0x12: "1111000011110000",
	0x13: "0000111100001111",
	0x14: "1111000000000000",
	0x15: "0000111111111111",
	0x18: "1111111100000000",
	0x19: "0000000011111111",
	0x1a: "1010000010100000",
	0x1b: "0101111101011111",
	0x1c: "1100110011001100",
	0x1d: "0011001100110011",
	0x1e: "1010101010101010",
	0x1f: "0101010101010101",
}

// allCodes: the sixteen, in the order 0000, 0001 .. 1111 (N, Z, V, C).
func allCodes() []api.Flags {
	var list []api.Flags
	for i := range 16 {
		text := fmt.Sprintf("%04b", i)
		list = append(list, api.Flags{N: text[0] == '1', Z: text[1] == '1', V: text[2] == '1', C: text[3] == '1'})
	}
	return list
}

// named: the bits of a status, those of the level included.
var named = []int{0, 1, 2, 3, 16, 17, 18, 19, 20, 22, 24, 27}

// combined: every combination of the bits of a status.
func combined() []uint32 {
	list := []uint32{0}
	for _, i := range named {
		for _, x := range list {
			list = append(list, x|1<<i)
		}
	}
	return list
}

// statuses: all numbers that can be one.
func statuses() []uint32 {
	var list []uint32
	for _, x := range combined() {
		if canBe(x) {
			list = append(list, x)
		}
	}
	return list
}

// numbers: each bit by itself, each pair of bits, each bit missing, all, none, statuses at every level, the same with each of the other bits, and mixed ones.
func numbers() []uint32 {
	list := []uint32{0, math.MaxUint32}
	for i := range 32 {
		list = append(list, 1<<i, math.MaxUint32-1<<i, 1<<i-1)
		for j := range i {
			list = append(list, 1<<i|1<<j)
		}
	}
	for level := range uint32(32) {
		for _, x := range []uint32{0, 0x0000000f, 0x00400000, 0x01000000, 0x01400000, 0x08000000, 0x0940000a} {
			list = append(list, x|level<<16)
		}
	}
	for _, x := range []uint32{0, 0x01400000, 0x08450005, 0x0940000f, 0x00ff0000} {
		for i := range 32 {
			list = append(list, x^1<<i)
		}
	}
	x := uint32(1)
	for range 300 {
		x = x*1664525 + 1013904223
		list = append(list, x)
	}
	return list
}

// levels: 0 to 31, above them, and below 0.
func levels() []int {
	list := []int{math.MinInt, math.MinInt + 1, math.MinInt + 20, math.MaxInt - 31, math.MaxInt - 1, math.MaxInt, math.MinInt32, math.MaxInt32, 0x10000, 0x10005, 0x40000000, 0xff, 0x100, 0x11f}
	for level := -70; level <= 140; level++ {
		list = append(list, level)
	}
	return list
}
