package pte_test

import (
	"testing"

	"camshaft/pte"
)

// P3.2: who may write may read, and what the user may the kernel may.
func TestRightsGrow(t *testing.T) {
	for _, x := range entries() {
		for _, some := range either {
			if pte.May(x, some, true) && !pte.May(x, some, false) {
				t.Errorf("%08x, user %v: writes, but doesn't read", x, some)
			}
			if pte.May(x, true, some) && !pte.May(x, false, some) {
				t.Errorf("%08x, write %v: the user may, the kernel mayn't", x, some)
			}
		}
	}
}

// P3.2: what is made has its parts.
func TestMadeHasItsParts(t *testing.T) {
	for frame := uint32(0); frame <= greatest; frame += 37 {
		hasItsParts(t, frame)
	}
	for _, frame := range frames {
		if frame <= greatest {
			hasItsParts(t, frame)
		}
	}
}

func hasItsParts(t *testing.T, frame uint32) {
	t.Helper()
	for prot := range 4 {
		for _, valid := range either {
			for _, modified := range either {
				x := pte.Make(valid, prot, modified, frame)
				if pte.Prot(x) != prot || pte.Frame(x) != frame || pte.Is(x) != valid || pte.Written(x) != modified {
					t.Fatalf("Make(%v, %d, %v, %x): %08x has other parts", valid, prot, modified, frame, x)
				}
			}
		}
	}
}

// P3.2: an entry made anew of its parts has the same ones, and nothing beside them.
func TestMadeAnew(t *testing.T) {
	for _, x := range entries() {
		y := pte.Make(pte.Is(x), pte.Prot(x), pte.Written(x), pte.Frame(x))
		if all(y) != all(x) {
			t.Errorf("%08x: %08x has other parts", x, y)
		}
		if y&0x63e00000 != 0 {
			t.Errorf("%08x: %08x has bits that say nothing", x, y)
		}
	}
}
