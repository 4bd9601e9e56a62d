package ram_test

import (
	"bytes"
	"testing"

	"camshaft/api"
	"camshaft/ram"
)

// P2.2: what was put is got, with only the lowest bytes of x; each other byte stays, and those put stand lowest first.
func TestPutIsGot(t *testing.T) {
	const places = 11
	for at := uint32(0); at <= places; at++ {
		for size := 0; size <= 4 && int(at)+size <= places; size++ {
			for _, x := range numbers {
				r, m := filled(t, places)
				if e := r.Put(at, x, size); e != api.OK {
					t.Fatalf("Put(%d, %x, %d): %d", at, x, size, e)
				}
				want := uint32(uint64(x) % (1 << (8 * size)))
				if got, e := r.Get(at, size); got != want || e != api.OK {
					t.Fatalf("Get(%d, %d): %x (%d), want %x", at, size, got, e, want)
				}
				eachByte(t, r, m.cells, at, x, size)
			}
		}
	}
}

func eachByte(t *testing.T, r *ram.Ram, old []byte, at, x uint32, size int) {
	t.Helper()
	for i, c := range old {
		want := uint32(c)
		if k := i - int(at); 0 <= k && k < size {
			want = x >> (8 * k) & 0xff
		}
		if got, e := r.Get(uint32(i), 1); got != want || e != api.OK {
			t.Fatalf("Put(%d, %x, %d): byte %d is %x (%d), want %x", at, x, size, i, got, e, want)
		}
	}
}

// P2.2: bits of x beyond the size play no part.
func TestLowestBytesAlone(t *testing.T) {
	for size := 0; size < 4; size++ {
		for _, x := range numbers {
			r, _ := filled(t, 6)
			s, _ := filled(t, 6)
			r.Put(1, x, size)
			s.Put(1, x^0xffffffff<<(8*size), size)
			a, _ := r.Bytes(0, 6)
			b, _ := s.Bytes(0, 6)
			if !bytes.Equal(a, b) {
				t.Fatalf("%x, %d: %x and %x", x, size, a, b)
			}
		}
	}
}

// P2.2: what was loaded is got by Get, and what was put by Bytes, at places that aren't multiples of a size.
func TestLoadIsGot(t *testing.T) {
	r := ram.New(16)
	for at := uint32(0); at <= 12; at++ {
		if r.Load(at, 0x0d, 0xf0, 0xad, 0xba) != api.OK {
			t.Fatalf("Load(%d)", at)
		}
		if x, e := r.Get(at, 4); x != 0xbaadf00d || e != api.OK {
			t.Fatalf("Get(%d, 4): %x (%d)", at, x, e)
		}
		if r.Put(at, 0xcafe1234, 4) != api.OK {
			t.Fatalf("Put(%d)", at)
		}
		if b, e := r.Bytes(at, 4); string(b) != "\x34\x12\xfe\xca" || e != api.OK {
			t.Fatalf("Bytes(%d, 4): %x (%d)", at, b, e)
		}
	}
}

// P2.3: the bytes handed to Load, and the room behind them, aren't changed, and aren't kept, whether they are put or not.
func TestLoadKeepsNothing(t *testing.T) {
	for _, n := range []int{0, 1, 3, 8, 9} {
		whole := series(1, 12)
		b := whole[:n]
		r, m := filled(t, 8)
		if e, f := r.Load(0, b...), m.load(0, b); e != f {
			t.Fatalf("Load of %d: %d, want %d", n, e, f)
		}
		if !bytes.Equal(whole, series(1, 12)) {
			t.Errorf("Load of %d: it changed its bytes: %x", n, whole)
		}
		clear(whole)
		same(t, r, m, "the caller's bytes cleared")
		r.Put(0, 0xffffffff, 4)
		r.Load(4, 0xff, 0xff, 0xff, 0xff)
		if !bytes.Equal(whole, make([]byte, 12)) {
			t.Errorf("Load of %d: it kept its bytes: %x", n, whole)
		}
	}
}

// P2.3: what Bytes answers is new memory: neither the memory nor another answer sees what is written there, nor in the room behind it; and it doesn't see what is put later.
func TestBytesAreNew(t *testing.T) {
	for at := uint32(0); at <= 8; at++ {
		for n := 0; int(at)+n <= 8; n++ {
			r, m := filled(t, 8)
			one, _ := r.Bytes(at, n)
			two, _ := r.Bytes(at, n)
			want, _ := m.bytes(at, n)
			clear(one[:cap(one)])
			_ = append(one, 0, 0)
			same(t, r, m, "an answer cleared")
			if !bytes.Equal(two, want) {
				t.Fatalf("Bytes(%d, %d): another answer is %x", at, n, two)
			}
			r.Load(0, make([]byte, 8)...)
			if !bytes.Equal(two, want) {
				t.Fatalf("Bytes(%d, %d): behind a Load it is %x", at, n, two)
			}
		}
	}
}
