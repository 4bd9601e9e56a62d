package psl_test

import (
	"math"
	"testing"

	"camshaft/psl"
)

// P6.1: the parts of all kinds of numbers, and whether they can be a status.
func TestParts(t *testing.T) {
	for _, x := range append(numbers(), combined()...) {
		if f := psl.Flags(x); codeDigits(f) != digits(x)[28:] {
			t.Errorf("Flags(%08x): %v", x, f)
		}
		if n := psl.Ipl(x); n != level(t, x) {
			t.Errorf("Ipl(%08x): %d", x, n)
		}
		if is := psl.IsUser(x); is != has(x, 24) {
			t.Errorf("IsUser(%08x): %v", x, is)
		}
		if good := psl.Good(x); good != canBe(x) {
			t.Errorf("Good(%08x): %v", x, good)
		}
	}
}

// P6.1: what can be a status can't with any other bit.
func TestNoOtherBitIsGood(t *testing.T) {
	count := 0
	for _, x := range statuses() {
		count++
		for _, i := range []int{4, 5, 6, 7, 8, 9, 10, 11, 12, 13, 14, 15, 21, 23, 25, 26, 28, 29, 30, 31} {
			if psl.Good(x | 1<<i) {
				t.Errorf("Good(%08x)", x|1<<i)
			}
		}
	}
	if count != 2048+32 {
		t.Errorf("%d statuses", count)
	}
}

// P6.1: of all codes, the number of which just these are set, and they are read again.
func TestCodes(t *testing.T) {
	for i, f := range allCodes() {
		x := psl.Codes(f)
		if x != uint32(i) {
			t.Errorf("Codes(%v): %x, want %x", f, x, i)
		}
		if psl.Flags(x) != f {
			t.Errorf("Flags(%x): %v, want %v", x, psl.Flags(x), f)
		}
	}
}

// P6.1: other codes, and every other bit as it was.
func TestWith(t *testing.T) {
	for _, x := range numbers() {
		for _, f := range allCodes() {
			want := worth(t, digits(x)[:28]+codeDigits(f))
			if y := psl.With(x, f); y != want {
				t.Errorf("With(%08x, %v): %08x, want %08x", x, f, y, want)
			}
		}
	}
}

// P6.1: another level, and every other bit as it was.
func TestAt(t *testing.T) {
	for _, x := range numbers() {
		text := digits(x)
		for _, n := range levels() {
			want := worth(t, text[:11]+fiveDigits(n)+text[16:])
			if y := psl.At(x, n); y != want {
				t.Errorf("At(%08x, %d): %08x, want %08x", x, n, y, want)
			}
		}
	}
}

// P6.1: of what was, only whether it was the user's is left.
func TestEnter(t *testing.T) {
	for _, x := range numbers() {
		for _, n := range levels() {
			want := worth(t, "000000000"+digit(has(x, 24))+"0"+fiveDigits(n)+"0000000000000000")
			if y := psl.Enter(x, n); y != want {
				t.Errorf("Enter(%08x, %d): %08x, want %08x", x, n, y, want)
			}
		}
	}
}

// ends: users and kernels at all levels, with and without Was and FPD, and with a bit that no status has.
func ends() []uint32 {
	var list []uint32
	for level := range uint32(32) {
		for _, x := range []uint32{0, 0x0000000c, 0x00400000, 0x08400003, 0x01400000, 0x0940000f, 0x01000000, 0x00000010, 0x00800000, 0x81400000} {
			list = append(list, x|level<<16)
		}
	}
	return append(list, 0x00200000, 0xfee0ffff, 0xfeffffff, 0xffffffff)
}

// P6.1: returns from and to all of these.
func TestBack(t *testing.T) {
	for _, from := range ends() {
		for _, to := range ends() {
			if back := psl.Back(from, to); back != mayReturn(t, from, to) {
				t.Errorf("Back(%08x, %08x): %v", from, to, back)
			}
		}
	}
}

// P6.1: returns from all kinds of numbers to all kinds.
func TestBackOfNumbers(t *testing.T) {
	list := numbers()
	for i, from := range list {
		for j := range 40 {
			to := list[(i*7+j*31)%len(list)]
			if back := psl.Back(from, to); back != mayReturn(t, from, to) {
				t.Errorf("Back(%08x, %08x): %v", from, to, back)
			}
		}
	}
}

// branchCodes: 0 to FF, below 0, above FF, and such as share the lowest bits of a branch's.
func branchCodes() []int {
	list := []int{math.MinInt, math.MaxInt, math.MinInt32, math.MaxInt32}
	for code := -0x120; code < 0x320; code++ {
		list = append(list, code)
	}
	for code := 0x10; code < 0x20; code++ {
		list = append(list, code+0x10000, code-0x10000, code+0x40000000, math.MinInt32+code, math.MinInt+code, ^code)
	}
	return list
}

// P6.1: each branch with all sixteen codes; what is none isn't taken.
func TestBranch(t *testing.T) {
	for _, code := range branchCodes() {
		row, is := taken[code]
		for i, f := range allCodes() {
			want := is && row[i] == '1'
			if got := psl.Branch(code, f); got != want {
				t.Errorf("Branch(%x, %v): %v", code, f, got)
			}
		}
	}
}
