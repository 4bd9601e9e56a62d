package pte_test

import (
	"testing"

	"camshaft/pte"
)

// P3.1, by hand: numbers that are written out here.

func TestConstants(t *testing.T) {
	bits := [3]uint32{pte.Valid, pte.Modified, pte.Frames}
	if bits != [3]uint32{0x80000000, 0x04000000, 0x001fffff} {
		t.Errorf("%x", bits)
	}
	prots := [4]int{pte.Nobody, pte.Kernel, pte.Readable, pte.All}
	if prots != [4]int{0, 1, 2, 3} {
		t.Error(prots)
	}
}

func TestMakeByHand(t *testing.T) {
	for _, c := range []struct {
		valid    bool
		prot     int
		modified bool
		frame    uint32
		want     uint32
	}{
		{true, pte.All, false, 3, 0x98000003},
		{true, pte.Readable, true, 0x1234, 0x94001234},
		{false, pte.Nobody, false, 0, 0},
		{true, pte.Nobody, false, 0, 0x80000000},
		{false, pte.Nobody, true, 0, 0x04000000},
		{false, pte.Kernel, false, 0, 0x08000000},
		{false, pte.Readable, false, 0, 0x10000000},
		{false, pte.All, false, 0, 0x18000000},
		{false, pte.Nobody, false, 1, 1},
		{false, pte.Nobody, false, 0x1fffff, 0x1fffff},
		{false, pte.Nobody, false, 0x200000, 0},
		{false, pte.Nobody, false, 0xffffffff, 0x1fffff},
		{true, pte.All, true, 0xffffffff, 0x9c1fffff},
		{false, 4, false, 0, 0},
		{false, 6, false, 7, 0x10000007},
		{false, -1, false, 0, 0x18000000},
		{false, -2, true, 0, 0x14000000},
		{true, -3, false, 0x200005, 0x88000005},
		{true, -4, true, 0x100000, 0x84100000},
	} {
		if x := pte.Make(c.valid, c.prot, c.modified, c.frame); x != c.want {
			t.Errorf("Make(%v, %d, %v, %x): %08x, want %08x", c.valid, c.prot, c.modified, c.frame, x, c.want)
		}
	}
}

func TestPartsByHand(t *testing.T) {
	for _, c := range []struct {
		x           uint32
		prot        int
		frame       uint32
		is, written bool
	}{
		{0, 0, 0, false, false},
		{0xffffffff, 3, 0x1fffff, true, true},
		{0x98000003, 3, 3, true, false},
		{0x94001234, 2, 0x1234, true, true},
		{0x80000000, 0, 0, true, false},
		{0x7fffffff, 3, 0x1fffff, false, true},
		{0x04000000, 0, 0, false, true},
		{0xfbffffff, 3, 0x1fffff, true, false},
		{0x08000000, 1, 0, false, false},
		{0x10000000, 2, 0, false, false},
		{0x00100000, 0, 0x100000, false, false},
		{0x00200000, 0, 0, false, false},
		{0x63e00000, 0, 0, false, false},
		{0xe3e00001, 0, 1, true, false},
	} {
		if p := pte.Prot(c.x); p != c.prot {
			t.Errorf("Prot(%08x): %d", c.x, p)
		}
		if f := pte.Frame(c.x); f != c.frame {
			t.Errorf("Frame(%08x): %x", c.x, f)
		}
		if is := pte.Is(c.x); is != c.is {
			t.Errorf("Is(%08x): %v", c.x, is)
		}
		if w := pte.Written(c.x); w != c.written {
			t.Errorf("Written(%08x): %v", c.x, w)
		}
	}
}

func TestPlaceByHand(t *testing.T) {
	for _, c := range []struct{ x, va, want uint32 }{
		{0x98000003, 0x1ff, 0x7ff},
		{0x98000003, 0x80000201, 0x601},
		{0, 0, 0},
		{0, 0xffffffff, 0x1ff},
		{1, 0, 0x200},
		{1, 0x200, 0x200},
		{0x100000, 0x100, 0x20000100},
		{0x1fffff, 0, 0x3ffffe00},
		{0x1fffff, 0xffffffff, 0x3fffffff},
		{0x200000, 0x3ff, 0x1ff},
		{0xffffffff, 0xfffffe00, 0x3ffffe00},
		{0xffffffff, 0xffffffff, 0x3fffffff},
	} {
		if at := pte.Place(c.x, c.va); at != c.want {
			t.Errorf("Place(%08x, %08x): %08x, want %08x", c.x, c.va, at, c.want)
		}
	}
}
