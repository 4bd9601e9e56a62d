package shift_test

import (
	"testing"

	"camshaft/shift"
)

// P9.1: the chapter's example.
func TestExample(t *testing.T) {
	if got := ash(1, 0x40000000); got != (answer{0x80000000, codes("NV")}) {
		t.Errorf("Ash(1, 40000000): %s", got)
	}
}

// P9.1: Ash, by hand: up, with what doesn't fit, and down, towards less.
func TestAsh(t *testing.T) {
	for _, c := range []struct {
		count int
		x, y  uint32
		codes string
	}{
		{0, 0, 0, "Z"}, {0, 5, 5, ""}, {0, 0x80000000, 0x80000000, "N"}, {0, 0xffffffff, 0xffffffff, "N"}, {0, 0x7fffffff, 0x7fffffff, ""},
		{1, 0, 0, "Z"}, {1, 1, 2, ""}, {1, 0x3fffffff, 0x7ffffffe, ""}, {1, 0x40000000, 0x80000000, "NV"}, {1, 0x7fffffff, 0xfffffffe, "NV"},
		{1, 0xffffffff, 0xfffffffe, "N"}, {1, 0xc0000000, 0x80000000, "N"}, {1, 0xbfffffff, 0x7ffffffe, "V"}, {1, 0x80000000, 0, "ZV"}, {1, 0x80000001, 2, "V"},
		{2, 0x40000001, 4, "V"}, {2, 0xe0000000, 0x80000000, "N"}, {2, 0xa0000000, 0x80000000, "NV"}, {2, 0x60000000, 0x80000000, "NV"},
		{4, 0xf, 0xf0, ""}, {8, 0x12345678, 0x34567800, "V"}, {8, 0xff800000, 0x80000000, "N"}, {8, 0xff7fffff, 0x7fffff00, "V"},
		{30, 1, 0x40000000, ""}, {30, 2, 0x80000000, "NV"}, {30, 0xfffffffe, 0x80000000, "N"}, {30, 0xfffffffd, 0x40000000, "V"},
		{31, 0, 0, "Z"}, {31, 1, 0x80000000, "NV"}, {31, 0xffffffff, 0x80000000, "N"}, {31, 0xfffffffe, 0, "ZV"}, {31, 2, 0, "ZV"}, {31, 3, 0x80000000, "NV"},
		{32, 0, 0, "Z"}, {32, 1, 0, "ZV"}, {32, 0xffffffff, 0, "ZV"}, {32, 0x80000000, 0, "ZV"}, {33, 1, 0, "ZV"}, {63, 0xffffffff, 0, "ZV"}, {64, 1, 0, "ZV"},
		{64, 0, 0, "Z"}, {96, 7, 0, "ZV"}, {127, 0, 0, "Z"}, {127, 1, 0, "ZV"}, {127, 0xffffffff, 0, "ZV"},
		{-1, 0, 0, "Z"}, {-1, 1, 0, "Z"}, {-1, 2, 1, ""}, {-1, 3, 1, ""}, {-1, 0xffffffff, 0xffffffff, "N"}, {-1, 0xfffffffe, 0xffffffff, "N"},
		{-1, 0xfffffffd, 0xfffffffe, "N"}, {-1, 0x80000000, 0xc0000000, "N"}, {-1, 0x80000001, 0xc0000000, "N"}, {-1, 0x7fffffff, 0x3fffffff, ""},
		{-4, 0xf0, 0xf, ""}, {-4, 0xffffff0f, 0xfffffff0, "N"}, {-30, 0x7fffffff, 1, ""}, {-30, 0x80000000, 0xfffffffe, "N"},
		{-31, 0x7fffffff, 0, "Z"}, {-31, 0x80000000, 0xffffffff, "N"}, {-31, 0xffffffff, 0xffffffff, "N"}, {-31, 1, 0, "Z"},
		{-32, 0x7fffffff, 0, "Z"}, {-32, 0x80000000, 0xffffffff, "N"}, {-33, 0x80000000, 0xffffffff, "N"}, {-64, 0x80000001, 0xffffffff, "N"}, {-64, 1, 0, "Z"},
		{-127, 0x80000000, 0xffffffff, "N"}, {-128, 0x80000000, 0xffffffff, "N"}, {-128, 0x7fffffff, 0, "Z"}, {-128, 0, 0, "Z"}, {-128, 0xffffffff, 0xffffffff, "N"},
	} {
		if got, want := ash(c.count, c.x), (answer{c.y, codes(c.codes)}); got != want {
			t.Errorf("Ash(%d, %x): %s, want %s", c.count, c.x, got, want)
		}
	}
}

// P9.1: Rot, by hand: up and down, by no place, by all of them, and round.
func TestRot(t *testing.T) {
	for _, c := range []struct {
		count int
		x, y  uint32
		codes string
	}{
		{0, 0, 0, "Z"}, {0, 1, 1, ""}, {0, 0x80000000, 0x80000000, "N"}, {1, 1, 2, ""}, {1, 0x80000000, 1, ""}, {1, 0x40000000, 0x80000000, "N"}, {1, 0, 0, "Z"},
		{4, 0xf0000001, 0x1f, ""}, {8, 0x12345678, 0x34567812, ""}, {16, 0x12345678, 0x56781234, ""}, {16, 0x1234abcd, 0xabcd1234, "N"}, {24, 0x12345678, 0x78123456, ""},
		{31, 1, 0x80000000, "N"}, {31, 0x80000000, 0x40000000, ""}, {31, 2, 1, ""}, {32, 0x12345678, 0x12345678, ""}, {32, 0x80000000, 0x80000000, "N"}, {32, 0, 0, "Z"},
		{33, 1, 2, ""}, {36, 0xf0000001, 0x1f, ""}, {64, 0x12345678, 0x12345678, ""}, {95, 1, 0x80000000, "N"}, {96, 5, 5, ""}, {127, 1, 0x80000000, "N"}, {127, 2, 1, ""},
		{-1, 1, 0x80000000, "N"}, {-1, 2, 1, ""}, {-1, 0x80000000, 0x40000000, ""}, {-1, 0xffffffff, 0xffffffff, "N"}, {-4, 0x1f, 0xf0000001, "N"}, {-8, 0x12345678, 0x78123456, ""},
		{-31, 1, 2, ""}, {-32, 0x12345678, 0x12345678, ""}, {-32, 0, 0, "Z"}, {-33, 1, 0x80000000, "N"}, {-33, 2, 1, ""}, {-64, 9, 9, ""}, {-127, 1, 2, ""}, {-128, 0x12345678, 0x12345678, ""}, {-128, 0xdeadbeef, 0xdeadbeef, "N"},
	} {
		for _, carry := range both {
			want := answer{c.y, codes(c.codes)}
			want.f.C = carry
			if got := rot(c.count, c.x, carry); got != want {
				t.Errorf("Rot(%d, %x, %v): %s, want %s", c.count, c.x, carry, got, want)
			}
		}
	}
}

// P9.1: Span, by hand; of at its lowest three bits alone; 0 of a size below 1.
func TestSpan(t *testing.T) {
	for _, c := range [][3]int{
		{0, 1, 1}, {0, 7, 1}, {0, 8, 1}, {0, 9, 2}, {0, 16, 2}, {0, 17, 3}, {0, 24, 3}, {0, 25, 4}, {0, 32, 4},
		{1, 7, 1}, {1, 8, 2}, {1, 32, 5}, {3, 5, 1}, {3, 6, 2}, {4, 28, 4}, {4, 29, 5},
		{7, 1, 1}, {7, 2, 2}, {7, 9, 2}, {7, 10, 3}, {7, 17, 3}, {7, 18, 4}, {7, 25, 4}, {7, 26, 5}, {7, 32, 5},
		{8, 8, 1}, {8, 9, 2}, {15, 1, 1}, {15, 2, 2}, {15, 9, 2}, {31, 32, 5}, {32, 32, 4}, {1000, 8, 1}, {1001, 8, 2}, {1<<32 - 1, 2, 2}, {1 << 32, 32, 4}, {1 << 32, 8, 1},
		{0, 0, 0}, {7, 0, 0}, {1 << 32, 0, 0}, {0, -1, 0}, {7, -1, 0}, {3, -8, 0}, {7, -32, 0}, {0, -1 << 31, 0}, {5, -1 << 63, 0}, {7, -1<<63 + 1, 0},
	} {
		if n := shift.Span(c[0], c[1]); n != c[2] {
			t.Errorf("Span(%d, %d): %d, want %d", c[0], c[1], n, c[2])
		}
	}
}

// P9.1: Extract, by hand: within the lower half, over the middle, all 32 bits from the last place on.
func TestExtract(t *testing.T) {
	const row = 0xfedcba9876543210
	for _, c := range []struct {
		row         uint64
		at, size    int
		plain, sign uint32
	}{
		{row, 0, 0, 0, 0}, {row, 31, 0, 0, 0}, {^uint64(0), 0, 0, 0, 0}, {^uint64(0), 31, 0, 0, 0}, {^uint64(0), 1 << 32, 0, 0, 0},
		{row, 0, 4, 0, 0}, {row, 0, 8, 0x10, 0x10}, {row, 4, 1, 1, 0xffffffff}, {row, 4, 2, 1, 1}, {row, 4, 8, 0x21, 0x21}, {row, 0, 32, 0x76543210, 0x76543210},
		{row, 9, 1, 1, 0xffffffff}, {row, 24, 8, 0x76, 0x76}, {row, 24, 7, 0x76, 0xfffffff6}, {row, 28, 5, 7, 7}, {row, 28, 4, 7, 7}, {row, 28, 3, 7, 0xffffffff}, {row, 28, 8, 0x87, 0xffffff87},
		{row, 16, 32, 0xba987654, 0xba987654}, {row, 31, 1, 0, 0}, {row, 30, 2, 1, 1}, {row, 31, 5, 0x10, 0xfffffff0}, {row, 31, 32, 0xfdb97530, 0xfdb97530}, {row, 31, 31, 0x7db97530, 0xfdb97530},
		{1 << 62, 31, 32, 0x80000000, 0x80000000}, {1 << 63, 31, 32, 0, 0}, {1 << 62, 31, 31, 0, 0}, {1 << 31, 31, 1, 1, 0xffffffff}, {1 << 31, 0, 32, 0x80000000, 0x80000000}, {1 << 31, 0, 31, 0, 0},
		{row, 32, 8, 0x10, 0x10}, {row, 36, 8, 0x21, 0x21}, {row, 63, 32, 0xfdb97530, 0xfdb97530}, {row, 100, 8, 0x21, 0x21}, {row, 1 << 32, 32, 0x76543210, 0x76543210}, {row, 1<<32 - 4, 8, 0x87, 0xffffff87}, {row, 1<<32 - 1, 31, 0x7db97530, 0xfdb97530},
	} {
		if x := shift.Extract(c.row, c.at, c.size, false); x != c.plain {
			t.Errorf("Extract(%x, %d, %d, false): %x, want %x", c.row, c.at, c.size, x, c.plain)
		}
		if x := shift.Extract(c.row, c.at, c.size, true); x != c.sign {
			t.Errorf("Extract(%x, %d, %d, true): %x, want %x", c.row, c.at, c.size, x, c.sign)
		}
	}
}

// P9.1: Insert, by hand: bits of x beyond the size play no part; size 0 changes nothing.
func TestInsert(t *testing.T) {
	const row = 0xfedcba9876543210
	for _, c := range []struct {
		row      uint64
		at, size int
		x        uint32
		want     uint64
	}{
		{row, 0, 0, 0xffffffff, row}, {row, 31, 0, 0xffffffff, row}, {0, 5, 0, 1, 0}, {^uint64(0), 5, 0, 0, ^uint64(0)},
		{row, 0, 4, 0xf, 0xfedcba987654321f}, {row, 0, 4, 0xaf, 0xfedcba987654321f}, {row, 4, 8, 0xffffff12, 0xfedcba9876543120}, {row, 0, 32, 0, 0xfedcba9800000000}, {row, 0, 32, 0x89abcdef, 0xfedcba9889abcdef},
		{row, 28, 8, 0xab, 0xfedcba9ab6543210}, {row, 28, 4, 0xfff8, 0xfedcba9886543210}, {row, 16, 32, 0x11112222, 0xfedc111122223210}, {row, 31, 1, 3, 0xfedcba98f6543210}, {row, 31, 1, 2, row},
		{row, 31, 32, 0, 0x8000000076543210}, {row, 31, 32, 0xffffffff, 0xfffffffff6543210}, {0, 31, 32, 0xffffffff, 0x7fffffff80000000}, {0, 31, 31, 0xffffffff, 0x3fffffff80000000}, {^uint64(0), 31, 32, 0, 0x800000007fffffff},
		{row, 36, 8, 0x12, 0xfedcba9876543120}, {row, 1 << 32, 4, 0xf, 0xfedcba987654321f}, {row, 1<<32 - 4, 8, 0xab, 0xfedcba9ab6543210}, {0, 63, 32, 0xffffffff, 0x7fffffff80000000},
	} {
		if y := shift.Insert(c.row, c.at, c.size, c.x); y != c.want {
			t.Errorf("Insert(%x, %d, %d, %x): %x, want %x", c.row, c.at, c.size, c.x, y, c.want)
		}
	}
}
