package pte_test

import (
	"strings"
	"testing"

	"camshaft/pte"
)

// P3.1: of parts within their bits and beyond them, what is made has these parts, and noughts.
func TestMake(t *testing.T) {
	for _, prot := range protections {
		for _, frame := range frames {
			for _, valid := range either {
				for _, modified := range either {
					want := made(t, valid, prot, modified, frame)
					if x := pte.Make(valid, prot, modified, frame); x != want {
						t.Errorf("Make(%v, %d, %v, %x): %08x, want %08x", valid, prot, modified, frame, x, want)
					}
				}
			}
		}
	}
}

// P3.1: the parts of all kinds of entries.
func TestParts(t *testing.T) {
	for _, x := range entries() {
		if p := pte.Prot(x); p != int(part(t, x, 27, 28)) {
			t.Errorf("Prot(%08x): %d", x, p)
		}
		if f := pte.Frame(x); f != part(t, x, 0, 20) {
			t.Errorf("Frame(%08x): %x", x, f)
		}
		if is := pte.Is(x); is != (part(t, x, 31, 31) == 1) {
			t.Errorf("Is(%08x): %v", x, is)
		}
		if w := pte.Written(x); w != (part(t, x, 26, 26) == 1) {
			t.Errorf("Written(%08x): %v", x, w)
		}
	}
}

// P3.1: the protection alone says who may do what, whether the page is there or not.
func TestMay(t *testing.T) {
	for _, x := range entries() {
		who := allowed[part(t, x, 27, 28)]
		for i, user := range either {
			if read := pte.May(x, user, false); read != strings.Contains(who[i], "r") {
				t.Errorf("May(%08x, %v, false): %v", x, user, read)
			}
			if write := pte.May(x, user, true); write != strings.Contains(who[i], "w") {
				t.Errorf("May(%08x, %v, true): %v", x, user, write)
			}
		}
	}
}

// P3.1: a place is the frame's number and, behind it, the lowest nine bits of the address.
func TestPlace(t *testing.T) {
	for _, x := range entries() {
		for _, va := range addresses() {
			want := worth(t, digits(x)[11:]+digits(va)[23:])
			if at := pte.Place(x, va); at != want {
				t.Errorf("Place(%08x, %08x): %08x, want %08x", x, va, at, want)
			}
		}
	}
}

// P3.1: each byte of a page has its own place within the frame.
func TestPlacesOfAPage(t *testing.T) {
	for _, frame := range frames {
		first := frame % (greatest + 1) * 512
		for i := range uint32(1024) {
			if at := pte.Place(frame, 0x40000000+i); at != first+i%512 {
				t.Fatalf("Place(%x, %x): %x", frame, 0x40000000+i, at)
			}
		}
	}
}

// P3.1: bits that say nothing play no part.
func TestBitsThatSayNothing(t *testing.T) {
	for _, x := range entries() {
		for _, i := range []int{21, 22, 23, 24, 25, 29, 30} {
			if y := x ^ 1<<i; all(x) != all(y) {
				t.Errorf("%08x and %08x: %v and %v", x, y, all(x), all(y))
			}
		}
	}
}

// answers: what is answered of an entry.
type answers struct {
	prot         int
	frame, place uint32
	is, written  bool
	may          [4]bool
}

func all(x uint32) answers {
	a := answers{prot: pte.Prot(x), frame: pte.Frame(x), place: pte.Place(x, 0x2a5), is: pte.Is(x), written: pte.Written(x)}
	for i := range a.may {
		a.may[i] = pte.May(x, i >= 2, i%2 == 1)
	}
	return a
}
