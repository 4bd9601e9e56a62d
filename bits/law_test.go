package bits_test

import (
	"math"
	"testing"

	"camshaft/bits"
)

// P1.2: a sum, taken back by a difference with a borrow like its carry, and the other way round; C says the same both times.
func TestTakenBack(t *testing.T) {
	pairs(func(a, b uint32, size int) {
		want := uint32(rest(int64(a), size))
		for _, more := range []bool{false, true} {
			sum, there := bits.Add(a, b, more, size)
			if x, back := bits.Sub(sum, b, more, size); x != want || back.C != there.C {
				t.Fatalf("Sub of Add(%x, %x, %v, %d): %x", a, b, more, size, x)
			}
			less, there := bits.Sub(a, b, more, size)
			if x, back := bits.Add(less, b, more, size); x != want || back.C != there.C {
				t.Fatalf("Add of Sub(%x, %x, %v, %d): %x", a, b, more, size, x)
			}
		}
	})
}

// P1.2: Compare has the codes of Sub; where the difference doesn't fit, V is left off, and N is turned.
func TestComparedIsDifference(t *testing.T) {
	fit, unfit := 0, 0
	pairs(func(a, b uint32, size int) {
		_, f := bits.Sub(a, b, false, size)
		if f.V != !fits(value(a, size)-value(b, size), size) {
			t.Fatalf("Sub(%x, %x, %d): %+v", a, b, size, f)
		}
		if f.V {
			f.V, f.N = false, !f.N
			unfit++
		} else {
			fit++
		}
		if g := bits.Compare(a, b, size); g != f {
			t.Fatalf("Compare(%x, %x, %d): %+v", a, b, size, g)
		}
	})
	if fit == 0 || unfit == 0 {
		t.Errorf("%d fit, %d don't", fit, unfit)
	}
}

// Of other sizes nothing is promised, but that the calls end, and none panics.
func TestOtherSizes(t *testing.T) {
	list := []uint32{0, 1, 0x80, 0xff, 0x8000, 0xffff, 0x7fffffff, 0x80000000, 0xffffffff}
	for _, size := range []int{0, 3, 5, 8, 32, 64, -1, -2, -4, math.MaxInt32, math.MinInt32, math.MaxInt, math.MinInt} {
		for _, a := range list {
			for _, b := range list {
				callAll(t, a, b, size)
			}
		}
	}
}

func callAll(t *testing.T, a, b uint32, size int) {
	defer func() {
		if r := recover(); r != nil {
			t.Errorf("%x, %x, size %d: %v", a, b, size, r)
		}
	}()
	bits.Mask(size)
	bits.Top(size)
	bits.Neg(a, size)
	bits.Extend(a, size)
	bits.Signs(a, size)
	for _, more := range []bool{false, true} {
		bits.Add(a, b, more, size)
		bits.Sub(a, b, more, size)
	}
	bits.Mul(a, b, size)
	bits.Div(a, b, size)
	bits.Less(a, b, size)
	bits.Compare(a, b, size)
	bits.Put(a, b, size)
}
