package shift_test

import (
	"math/rand"
	"testing"

	"camshaft/shift"
)

// P9.1: Ash of every count, against numbers without a bound.
func TestAshModel(t *testing.T) {
	counts(func(count int) {
		for _, x := range numbers() {
			sameAsh(t, count, x)
		}
	})
}

// P9.1: Ash of numbers just within what fits, and just beyond it, for every count up.
func TestAshBounds(t *testing.T) {
	for count := range 32 {
		most := uint32(0x7fffffff) >> count
		for step := range uint32(5) {
			sameAsh(t, count, most-2+step)
			sameAsh(t, count, -most-1-2+step)
		}
	}
}

// P9.1: V and C of a count below nothing, and C of all others, are never set; V of nothing neither.
func TestAshCodes(t *testing.T) {
	counts(func(count int) {
		for _, x := range numbers() {
			w := ash(count, x)
			if w.f.C || w.f.V && (count < 0 || x == 0) || w.f.N && w.f.Z {
				t.Fatalf("Ash(%d, %x): %s", count, x, w)
			}
			if count >= 32 && w.f.V != (x != 0) {
				t.Fatalf("Ash(%d, %x): %s", count, x, w)
			}
		}
	})
}

// P9.1: Rot of every count, digit by digit, with either carry.
func TestRotModel(t *testing.T) {
	counts(func(count int) {
		for _, x := range numbers() {
			for _, c := range both {
				sameRot(t, count, x, c)
			}
		}
	})
}

// P9.1: numbers drawn with a seed that stays the same, of every count.
func TestDrawn(t *testing.T) {
	draw := rand.New(rand.NewSource(9))
	counts(func(count int) {
		for range 200 {
			sameAsh(t, count, draw.Uint32())
			sameAsh(t, count, draw.Uint32()>>draw.Intn(32))
			sameRot(t, count, draw.Uint32(), draw.Intn(2) == 1)
		}
	})
	fields(func(at, size int) {
		for range 30 {
			sameField(t, draw.Uint64(), at+32*draw.Intn(1<<27), size)
			sameInsert(t, draw.Uint64(), at+32*draw.Intn(1<<27), size, draw.Uint32())
		}
	})
}

// far: numbers of at that say the same bit of 32.
func far(at int) []int {
	return []int{at, at + 32, at + 64, at + 1<<20, at + 1<<31, at + 1<<32 - 32}
}

// P9.1: Span of each bit of a byte, near and far, and of each size, of none and of those below, byte by byte.
func TestSpanModel(t *testing.T) {
	fields(func(at, _ int) {
		for _, place := range far(at) {
			for size := -40; size <= 32; size++ {
				if got, want := shift.Span(place, size), modelSpan(place, size); got != want {
					t.Fatalf("Span(%d, %d): %d, want %d", place, size, got, want)
				}
			}
		}
	})
	for size := -40; size <= 32; size++ {
		if got, want := shift.Span(1<<32, size), modelSpan(0, size); got != want {
			t.Fatalf("Span(2^32, %d): %d, want %d", size, got, want)
		}
	}
}

// P9.1: Extract of each place and size, digit by digit, with a sign and without.
func TestExtractModel(t *testing.T) {
	for _, row := range rows() {
		fields(func(at, size int) {
			for _, place := range far(at) {
				sameField(t, row, place, size)
			}
		})
		for size := range 33 {
			sameField(t, row, 1<<32, size)
		}
	}
}

// P9.1: Insert of each place and size, digit by digit, with bits of x beyond the size.
func TestInsertModel(t *testing.T) {
	some := []uint32{0, 0xffffffff, 0x6b4d3a59, 0x93c5a6b7, 0xaaaaaaaa}
	for i, row := range rows() {
		x := some[i%len(some)]
		fields(func(at, size int) {
			sameInsert(t, row, at, size, x)
			sameInsert(t, row, at, size, ^x)
			sameInsert(t, row, far(at)[1+i%5], size, x)
		})
		for size := range 33 {
			sameInsert(t, row, 1<<32, size, x)
		}
	}
}
