package bits_test

import (
	"strings"

	"camshaft/api"
)

var sizes = []int{1, 2, 4}

// codes: flags by their letters.
func codes(letters string) api.Flags {
	has := func(c string) bool { return strings.Contains(letters, c) }
	return api.Flags{N: has("N"), Z: has("Z"), V: has("V"), C: has("C")}
}

// The model below is reckoned by moduli and bounds, not by bits, so that it shares no way of reckoning with the package.

// span: how many numbers a size has.
func span(size int) int64 { return int64(1) << (8 * size) }

// rest: n's rest by a size, of any n.
func rest(n int64, size int) int64 {
	return (n%span(size) + span(size)) % span(size)
}

// value: the rest of x as a number with a sign.
func value(x uint32, size int) int64 {
	r := rest(int64(x), size)
	if r >= span(size)/2 {
		return r - span(size)
	}
	return r
}

func fits(n int64, size int) bool {
	return -span(size)/2 <= n && n <= span(size)/2-1
}

// result: n's rest, with its N and Z, and V, if n doesn't fit.
func result(n int64, size int) (uint32, api.Flags) {
	r := rest(n, size)
	return uint32(r), api.Flags{N: r >= span(size)/2, Z: r == 0, V: !fits(n, size)}
}

func count(b bool) int64 {
	if b {
		return 1
	}
	return 0
}

// edges: the ends of a size with and without signs, their neighbours, ordinary numbers; each bare, and with bits beyond the size.
func edges(size int) []uint32 {
	half := uint32(span(size) / 2)
	all := uint32(span(size) - 1)
	bare := []uint32{0, 1, 2, 3, 7, 10, 100, half/2 - 1, half / 2, half - 2, half - 1, half, half + 1, half + half/2, all - 6, all - 2, all - 1, all}
	list := bare
	for _, x := range bare {
		list = append(list, x|^all&0xa5a5a5a5, x|^all)
	}
	return list
}

// bytes: all numbers of one byte, bare, and with bits beyond it.
func bytes() []uint32 {
	var list []uint32
	for x := range uint32(256) {
		list = append(list, x, x|0xdeadbe00)
	}
	return list
}

// numbers: of one byte all, of others the edges.
func numbers(size int) []uint32 {
	if size == 1 {
		return bytes()
	}
	return edges(size)
}

// pairs calls f with each two of the numbers of each size.
func pairs(f func(a, b uint32, size int)) {
	for _, size := range sizes {
		list := numbers(size)
		for _, a := range list {
			for _, b := range list {
				f(a, b, size)
			}
		}
	}
}
