package shift_test

import (
	"math"
	"testing"

	"camshaft/shift"
)

// lowest: a number's lowest size bits; extended: the same with the sign that they have.
func lowest(x uint32, size int) uint32 { return uint32(worth(digits(uint64(x), size))) }

func extended(x uint32, size int) uint32 {
	if r := int64(lowest(x, size)); size > 0 && r >= 1<<(size-1) {
		return uint32(r - 1<<size)
	}
	return lowest(x, size)
}

// P9.2: what is inserted is extracted, at each place and of each size.
func TestInsertedIsExtracted(t *testing.T) {
	for _, row := range rows() {
		fields(func(at, size int) {
			for _, x := range []uint32{0, 1, 0x80000000, 0x55555555, 0x6b4d3a59, 0xdeadbeef, 0xffffffff} {
				y := shift.Insert(row, at, size, x)
				if got, want := shift.Extract(y, at, size, false), lowest(x, size); got != want {
					t.Fatalf("Extract(Insert(%x, %d, %d, %x)): %x, want %x", row, at, size, x, got, want)
				}
				if got, want := shift.Extract(y, at, size, true), extended(x, size); got != want {
					t.Fatalf("Extract(Insert(%x, %d, %d, %x)) with a sign: %x, want %x", row, at, size, x, got, want)
				}
			}
		})
	}
}

// P9.2: all bits of the row but the field's stay, whatever is inserted.
func TestOtherBitsStay(t *testing.T) {
	for _, row := range rows() {
		was := digits(row, 64)
		fields(func(at, size int) {
			for _, x := range []uint32{0, 0xffffffff, 0x6b4d3a59} {
				now := digits(shift.Insert(row, at, size, x), 64)
				for i := range 64 {
					if within := at <= i && i < at+size; !within && now[i] != was[i] {
						t.Fatalf("Insert(%x, %d, %d, %x): bit %d is another one", row, at, size, x, i)
					}
				}
			}
		})
	}
}

// P9.2: what was extracted, with a sign or without, leaves the row as it is when it is inserted again.
func TestExtractedIsInserted(t *testing.T) {
	for _, row := range rows() {
		fields(func(at, size int) {
			for _, signed := range both {
				if y := shift.Insert(row, at, size, shift.Extract(row, at, size, signed)); y != row {
					t.Fatalf("of %x, bits from %d on, %d of them, inserted again: %x", row, at, size, y)
				}
			}
		})
	}
}

// P9.2: other bits of the row, and those of x beyond the size, play no part in a field.
func TestOtherBitsPlayNoPart(t *testing.T) {
	fields(func(at, size int) {
		for _, signed := range both {
			for _, x := range []uint32{0, 0x6b4d3a59, 0xffffffff} {
				a := shift.Extract(shift.Insert(0, at, size, x), at, size, signed)
				b := shift.Extract(shift.Insert(math.MaxUint64, at, size, x), at, size, signed)
				if a != b {
					t.Fatalf("bits from %d on, %d of them, %v: %x and %x", at, size, signed, a, b)
				}
			}
		}
	})
}

// P9.2: a turn by a count and by its opposite is none; -128 is its own opposite as a byte.
func TestTurnedBack(t *testing.T) {
	counts(func(count int) {
		back := -count
		if count == -128 {
			back = -128
		}
		for _, x := range numbers() {
			for _, c := range both {
				there := rot(count, x, c)
				if got := rot(back, there.x, there.f.C); got.x != x || got.f != rot(0, x, c).f {
					t.Fatalf("Rot of %x by %d, and by %d: %s", x, count, back, got)
				}
			}
		}
	})
}

// P9.1: turns by 32 places more are the same ones, and two of them are one by both counts.
func TestTurnsAdd(t *testing.T) {
	counts(func(count int) {
		for _, x := range numbers() {
			if more := count + 32; more <= 127 && rot(more, x, true) != rot(count, x, true) {
				t.Fatalf("Rot of %x by %d, and by %d, differ", x, count, more)
			}
			if count < 127 && rot(1, rot(count, x, false).x, false) != rot(count+1, x, false) {
				t.Fatalf("Rot of %x by %d, and one more, isn't that by %d", x, count, count+1)
			}
		}
	})
}

// P9.1: what fits comes back by the opposite count; shifts step by step are those at once.
func TestShiftedBack(t *testing.T) {
	counts(func(count int) {
		for _, x := range numbers() {
			there := ash(count, x)
			if count >= 0 && !there.f.V && ash(-count, there.x).x != x {
				t.Fatalf("Ash of %x by %d fits, but doesn't come back", x, count)
			}
			if count < 0 && ash(count, x).x != ash(-1, ash(count+1, x).x).x {
				t.Fatalf("Ash of %x by %d isn't one more place down", x, count)
			}
			if count > 0 && ash(count, x).x != ash(1, ash(count-1, x).x).x {
				t.Fatalf("Ash of %x by %d isn't one more place up", x, count)
			}
		}
	})
}

// callAll calls all three that take a size, and tells whether none panicked.
func callAll(row uint64, at, size int, x uint32) (ended bool) {
	defer func() { ended = recover() == nil }()
	shift.Span(at, size)
	shift.Extract(row, at, size, false)
	shift.Extract(row, at, size, true)
	shift.Insert(row, at, size, x)
	return true
}

// P9.1: calls with sizes, or with places, of which nothing is promised end.
func TestOddArgumentsEnd(t *testing.T) {
	ends := []int{math.MinInt, math.MinInt + 1, math.MinInt + 31, math.MinInt + 32, math.MinInt32, -1 << 33, -1000, -65, -64, -63, -33, -32, -31, -8, -7, -2, -1, 0, 1, 7, 8, 31, 32, 33, 34, 40, 63, 64, 65, 96, 128, 255, 256, 1000, math.MaxInt32, 1 << 31, 1<<32 - 1, 1 << 32, 1<<32 + 1, 1 << 40, math.MaxInt - 32, math.MaxInt - 7, math.MaxInt}
	for _, at := range ends {
		for _, size := range ends {
			for _, row := range rows()[:4] {
				if !callAll(row, at, size, 0x93c5a6b7) {
					t.Fatalf("of %x, at %d, size %d: a panic", row, at, size)
				}
			}
		}
	}
}
