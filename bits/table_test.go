package bits_test

import (
	"testing"

	"camshaft/bits"
)

// P1.1, by hand: numbers that are written out here.

func TestMaskTop(t *testing.T) {
	for _, c := range []struct {
		size      int
		mask, top uint32
	}{
		{1, 0xff, 0x80},
		{2, 0xffff, 0x8000},
		{4, 0xffffffff, 0x80000000},
	} {
		if x := bits.Mask(c.size); x != c.mask {
			t.Errorf("Mask(%d): %x", c.size, x)
		}
		if x := bits.Top(c.size); x != c.top {
			t.Errorf("Top(%d): %x", c.size, x)
		}
	}
}

func TestOneNumber(t *testing.T) {
	for _, c := range []struct {
		size     int
		x        uint32
		extended uint32
		signs    string
	}{
		{1, 0, 0, "Z"},
		{1, 1, 1, ""},
		{1, 0x7f, 0x7f, ""},
		{1, 0x80, 0xffffff80, "N"},
		{1, 0xff, 0xffffffff, "N"},
		{1, 0xffffff00, 0, "Z"},
		{1, 0x80000012, 0x12, ""},
		{1, 0x12345680, 0xffffff80, "N"},
		{2, 0, 0, "Z"},
		{2, 1, 1, ""},
		{2, 0x80, 0x80, ""},
		{2, 0x7fff, 0x7fff, ""},
		{2, 0x8000, 0xffff8000, "N"},
		{2, 0xffff, 0xffffffff, "N"},
		{2, 0xffff0000, 0, "Z"},
		{2, 0x80001234, 0x1234, ""},
		{2, 0x1234fffe, 0xfffffffe, "N"},
		{4, 0, 0, "Z"},
		{4, 1, 1, ""},
		{4, 0x8080, 0x8080, ""},
		{4, 0x7fffffff, 0x7fffffff, ""},
		{4, 0x80000000, 0x80000000, "N"},
		{4, 0xffffffff, 0xffffffff, "N"},
	} {
		want := codes(c.signs)
		if neg := bits.Neg(c.x, c.size); neg != want.N {
			t.Errorf("Neg(%x, %d): %v", c.x, c.size, neg)
		}
		if x := bits.Extend(c.x, c.size); x != c.extended {
			t.Errorf("Extend(%x, %d): %x", c.x, c.size, x)
		}
		if f := bits.Signs(c.x, c.size); f != want {
			t.Errorf("Signs(%x, %d): %+v", c.x, c.size, f)
		}
	}
}

func TestAdd(t *testing.T) {
	for _, c := range []struct {
		size  int
		a, b  uint32
		carry bool
		x     uint32
		codes string
	}{
		{1, 3, 4, false, 7, ""},
		{1, 3, 4, true, 8, ""},
		{1, 127, 1, false, 128, "NV"},
		{1, 0, 0, false, 0, "Z"},
		{1, 0x80, 0x80, false, 0, "ZVC"},
		{1, 0xff, 0, false, 0xff, "N"},
		{1, 0xff, 0, true, 0, "ZC"},        // C by the carry alone
		{1, 0x7f, 0, true, 0x80, "NV"},     // V by the carry alone
		{1, 0x80, 0xff, false, 0x7f, "VC"}, // V, which the carry takes away
		{1, 0x80, 0xff, true, 0x80, "NC"},
		{1, 0xff, 0xff, true, 0xff, "NC"},
		{1, 0x1ff, 0xab000001, false, 0, "ZC"},
		{1, 0xffffff01, 0xffffff02, false, 3, ""},
		{2, 300, 400, false, 700, ""},
		{2, 0xff, 1, false, 0x100, ""},
		{2, 0x7fff, 1, false, 0x8000, "NV"},
		{2, 0x7fff, 0, true, 0x8000, "NV"},
		{2, 0xffff, 0, true, 0, "ZC"},
		{2, 0x8000, 0xffff, false, 0x7fff, "VC"},
		{2, 0x8000, 0xffff, true, 0x8000, "NC"},
		{2, 0xffff0001, 0x12340002, true, 4, ""},
		{4, 70000, 80000, false, 150000, ""},
		{4, 0xffff, 1, false, 0x10000, ""},
		{4, 0x7fffffff, 1, false, 0x80000000, "NV"},
		{4, 0x7fffffff, 0, true, 0x80000000, "NV"},
		{4, 0xffffffff, 0, true, 0, "ZC"},
		{4, 0xffffffff, 0xffffffff, true, 0xffffffff, "NC"},
		{4, 0x80000000, 0x80000000, false, 0, "ZVC"},
		{4, 0x80000000, 0xffffffff, false, 0x7fffffff, "VC"},
		{4, 0x80000000, 0xffffffff, true, 0x80000000, "NC"},
	} {
		if x, f := bits.Add(c.a, c.b, c.carry, c.size); x != c.x || f != codes(c.codes) {
			t.Errorf("Add(%x, %x, %v, %d): %x, %+v", c.a, c.b, c.carry, c.size, x, f)
		}
	}
}

func TestSub(t *testing.T) {
	for _, c := range []struct {
		size   int
		a, b   uint32
		borrow bool
		x      uint32
		codes  string
	}{
		{1, 9, 4, false, 5, ""},
		{1, 9, 4, true, 4, ""},
		{1, 5, 5, false, 0, "Z"},
		{1, 5, 5, true, 0xff, "NC"}, // C by the borrow alone
		{1, 5, 4, true, 0, "Z"},
		{1, 0, 1, false, 0xff, "NC"},
		{1, 0, 0xff, true, 0, "ZC"}, // b and the borrow are more than a size holds
		{1, 0x80, 1, false, 0x7f, "V"},
		{1, 0x80, 0, true, 0x7f, "V"}, // V by the borrow alone
		{1, 0, 0x80, false, 0x80, "NVC"},
		{1, 0, 0x80, true, 0x7f, "C"}, // V, which the borrow takes away
		{1, 0xff, 0xff, true, 0xff, "NC"},
		{1, 0xffffff05, 0x00000105, false, 0, "Z"},
		{1, 0x00000109, 0xffffff04, false, 5, ""},
		{2, 900, 400, false, 500, ""},
		{2, 0, 1, false, 0xffff, "NC"},
		{2, 7, 7, true, 0xffff, "NC"},
		{2, 0x8000, 1, false, 0x7fff, "V"},
		{2, 0x8000, 0, true, 0x7fff, "V"},
		{2, 0, 0x8000, false, 0x8000, "NVC"},
		{2, 0, 0x8000, true, 0x7fff, "C"},
		{2, 0, 0xffff, true, 0, "ZC"},
		{2, 0x10009, 0xffff0004, true, 4, ""},
		{4, 90000, 40000, false, 50000, ""},
		{4, 0, 1, false, 0xffffffff, "NC"},
		{4, 7, 7, true, 0xffffffff, "NC"},
		{4, 0x80000000, 1, false, 0x7fffffff, "V"},
		{4, 0x80000000, 0, true, 0x7fffffff, "V"},
		{4, 0, 0x80000000, false, 0x80000000, "NVC"},
		{4, 0, 0x80000000, true, 0x7fffffff, "C"},
		{4, 0, 0xffffffff, true, 0, "ZC"},
	} {
		if x, f := bits.Sub(c.a, c.b, c.borrow, c.size); x != c.x || f != codes(c.codes) {
			t.Errorf("Sub(%x, %x, %v, %d): %x, %+v", c.a, c.b, c.borrow, c.size, x, f)
		}
	}
}

func TestMul(t *testing.T) {
	for _, c := range []struct {
		size  int
		a, b  uint32
		x     uint32
		codes string
	}{
		{1, 6, 7, 42, ""},
		{1, 0, 0x80, 0, "Z"},
		{1, 0xff, 5, 0xfb, "N"},
		{1, 0xff, 0xff, 1, ""},
		{1, 1, 0x7f, 0x7f, ""},  // the greatest
		{1, 64, 2, 0x80, "NV"},  // one more
		{1, 0xc0, 2, 0x80, "N"}, // the least
		{1, 43, 0xfd, 0x7f, "V"},
		{1, 0x80, 0xff, 0x80, "NV"},
		{1, 0x80, 0x80, 0, "ZV"},
		{1, 16, 16, 0, "ZV"},
		{1, 0xffffff06, 0x80000007, 42, ""},
		{2, 200, 100, 20000, ""},
		{2, 0xffff, 5, 0xfffb, "N"},
		{2, 0x1249, 7, 0x7fff, ""},
		{2, 0x4000, 2, 0x8000, "NV"},
		{2, 0xc000, 2, 0x8000, "N"},
		{2, 0x8000, 0xffff, 0x8000, "NV"},
		{2, 0x8000, 0x8000, 0, "ZV"},
		{2, 0x12340006, 0xffff0007, 42, ""},
		{4, 20000, 10000, 200000000, ""},
		{4, 0xffffffff, 5, 0xfffffffb, "N"},
		{4, 0x7fffffff, 1, 0x7fffffff, ""},
		{4, 0x40000000, 2, 0x80000000, "NV"},
		{4, 0xc0000000, 2, 0x80000000, "N"},
		{4, 0x80000000, 0xffffffff, 0x80000000, "NV"},
		{4, 0x80000000, 0x80000000, 0, "ZV"},
		{4, 0x7fffffff, 0x7fffffff, 1, "V"},
		{4, 0x10000, 0x10000, 0, "ZV"},
	} {
		if x, f := bits.Mul(c.a, c.b, c.size); x != c.x || f != codes(c.codes) {
			t.Errorf("Mul(%x, %x, %d): %x, %+v", c.a, c.b, c.size, x, f)
		}
	}
}

func TestDiv(t *testing.T) {
	for _, c := range []struct {
		size  int
		a, b  uint32
		x     uint32
		codes string
		ok    bool
	}{
		{1, 42, 7, 6, "", true},
		{1, 7, 2, 3, "", true},
		{1, 0xf9, 2, 0xfd, "N", true},
		{1, 7, 0xfe, 0xfd, "N", true},
		{1, 0xf9, 0xfe, 3, "", true},
		{1, 0xff, 2, 0, "Z", true},
		{1, 0, 9, 0, "Z", true},
		{1, 7, 0, 7, "V", false},
		{1, 0xf9, 0, 0xf9, "NV", false},
		{1, 0, 0, 0, "ZV", false},
		{1, 0x80, 0xff, 0x80, "NV", true},
		{1, 0x80, 1, 0x80, "N", true},
		{1, 0x7f, 0xff, 0x81, "N", true},
		{1, 0xffffff2a, 0x12345607, 6, "", true},
		{1, 0xabcdef07, 0xffffff00, 7, "V", false},
		{1, 0x00000180, 0x000002ff, 0x80, "NV", true},
		{2, 700, 200, 3, "", true},
		{2, 0xfd44, 200, 0xfffd, "N", true},
		{2, 700, 0xff38, 0xfffd, "N", true},
		{2, 0xfd44, 0xff38, 3, "", true},
		{2, 0x1234, 0, 0x1234, "V", false},
		{2, 0x56788234, 0xffff0000, 0x8234, "NV", false},
		{2, 0x8000, 0xffff, 0x8000, "NV", true},
		{2, 0x18000, 0x5ffff, 0x8000, "NV", true},
		{2, 0x8000, 1, 0x8000, "N", true},
		{4, 7000000, 2000000, 3, "", true},
		{4, 0xfffffff9, 2, 0xfffffffd, "N", true},
		{4, 7, 0xfffffffe, 0xfffffffd, "N", true},
		{4, 0xfffffff9, 0xfffffffe, 3, "", true},
		{4, 7, 0, 7, "V", false},
		{4, 0x80000000, 0, 0x80000000, "NV", false},
		{4, 0, 0, 0, "ZV", false},
		{4, 0x80000000, 0xffffffff, 0x80000000, "NV", true},
		{4, 0x80000000, 2, 0xc0000000, "N", true},
	} {
		if x, f, ok := bits.Div(c.a, c.b, c.size); x != c.x || f != codes(c.codes) || ok != c.ok {
			t.Errorf("Div(%x, %x, %d): %x, %+v, %v", c.a, c.b, c.size, x, f, ok)
		}
	}
}

func TestLessCompare(t *testing.T) {
	for _, c := range []struct {
		size  int
		a, b  uint32
		codes string
	}{
		{1, 1, 2, "NC"},
		{1, 2, 1, ""},
		{1, 5, 5, "Z"},
		{1, 0, 0, "Z"},
		{1, 0xff, 1, "N"},
		{1, 1, 0xff, "C"},
		{1, 0x80, 0x7f, "N"},
		{1, 0x7f, 0x80, "C"},
		{1, 0x80, 0xff, "NC"},
		{1, 0x105, 0xffffff05, "Z"},
		{1, 0x201, 0x102, "NC"},
		{2, 0x100, 0x101, "NC"},
		{2, 0x1ff, 0x1ff, "Z"},
		{2, 0xffff, 1, "N"},
		{2, 0x7fff, 0x8000, "C"},
		{2, 0x8000, 0xffff, "NC"},
		{2, 0x10005, 0xffff0005, "Z"},
		{2, 0x20001, 0x10002, "NC"},
		{4, 0x10000, 0x10001, "NC"},
		{4, 0x10001, 0x10000, ""},
		{4, 0x80000000, 0x80000000, "Z"},
		{4, 0xffffffff, 1, "N"},
		{4, 0x7fffffff, 0x80000000, "C"},
		{4, 0x80000000, 0x7fffffff, "N"},
	} {
		want := codes(c.codes)
		if with, without := bits.Less(c.a, c.b, c.size); with != want.N || without != want.C {
			t.Errorf("Less(%x, %x, %d): %v, %v", c.a, c.b, c.size, with, without)
		}
		if f := bits.Compare(c.a, c.b, c.size); f != want {
			t.Errorf("Compare(%x, %x, %d): %+v", c.a, c.b, c.size, f)
		}
	}
}

func TestPut(t *testing.T) {
	for _, c := range []struct {
		size   int
		old, x uint32
		put    uint32
	}{
		{1, 0x12345678, 0xff, 0x123456ff},
		{1, 0x12345678, 0xabcdef00, 0x12345600},
		{1, 0, 0xffffffff, 0xff},
		{1, 0xffffffff, 0, 0xffffff00},
		{1, 0x12, 0x34, 0x34},
		{2, 0x12345678, 0xff, 0x123400ff},
		{2, 0x12345678, 0xabcdef01, 0x1234ef01},
		{2, 0, 0xffffffff, 0xffff},
		{2, 0xffffffff, 0, 0xffff0000},
		{4, 0x12345678, 0xff, 0xff},
		{4, 0x12345678, 0xabcdef01, 0xabcdef01},
		{4, 0xffffffff, 0, 0},
	} {
		if x := bits.Put(c.old, c.x, c.size); x != c.put {
			t.Errorf("Put(%x, %x, %d): %x", c.old, c.x, c.size, x)
		}
	}
}
