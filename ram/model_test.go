package ram_test

import (
	"bytes"
	"fmt"
	"testing"

	"camshaft/api"
	"camshaft/ram"
)

// P2.1: each place and each size of small memories, held against the model.
func TestNumbersOfSmallMemories(t *testing.T) {
	for size := range 8 {
		r, m := filled(t, size)
		for _, at := range places(size) {
			for _, n := range counts(size) {
				getAndPut(t, r, m, at, n)
			}
		}
	}
}

func getAndPut(t *testing.T, r *ram.Ram, m *model, at uint32, n int) {
	t.Helper()
	for _, x := range numbers {
		when := fmt.Sprintf("size %d: at %x, %x, %d", len(m.cells), at, x, n)
		got, e := r.Get(at, n)
		if want, f := m.get(at, n); got != want || e != f {
			t.Fatalf("%s: Get %x (%d), want %x (%d)", when, got, e, want, f)
		}
		if e, f := r.Put(at, x, n), m.put(at, x, n); e != f {
			t.Fatalf("%s: Put %d, want %d", when, e, f)
		}
		same(t, r, m, when)
	}
}

// P2.1: likewise of bytes.
func TestBytesOfSmallMemories(t *testing.T) {
	for size := range 8 {
		r, m := filled(t, size)
		for i, at := range places(size) {
			for n := range size + 7 {
				loadOf(t, r, m, at, series(i+n, n))
			}
			for _, n := range counts(size) {
				bytesOf(t, r, m, at, n)
			}
		}
	}
}

func loadOf(t *testing.T, r *ram.Ram, m *model, at uint32, b []byte) {
	t.Helper()
	if e, f := r.Load(at, b...), m.load(at, b); e != f {
		t.Fatalf("size %d: Load(%x, %x): %d, want %d", len(m.cells), at, b, e, f)
	}
	same(t, r, m, "Load")
}

func bytesOf(t *testing.T, r *ram.Ram, m *model, at uint32, n int) {
	t.Helper()
	b, e := r.Bytes(at, n)
	if want, f := m.bytes(at, n); !bytes.Equal(b, want) || e != f {
		t.Fatalf("size %d: Bytes(%x, %d): %x (%d), want %x (%d)", len(m.cells), at, n, b, e, want, f)
	}
}

// drawn is a series of numbers that looks like one by chance, and is the same in every run.
type drawn struct{ last uint64 }

func (d *drawn) next(n int) int {
	d.last = d.last*6364136223846793005 + 1442695040888963407
	return int(d.last >> 33 % uint64(n))
}

// place: mostly one of a memory of a size, or shortly behind it; now and then one far beyond.
func (d *drawn) place(size int) uint32 {
	if d.next(16) == 0 {
		return ^uint32(d.next(6))
	}
	return uint32(d.next(size + 3))
}

// pair is a memory, and the model that it is held against.
type pair struct {
	r *ram.Ram
	m *model
}

// P2.1: calls in mixed orders, of memories that are copied on the way.
func TestMixedOrders(t *testing.T) {
	for seed := range 40 {
		d := &drawn{last: uint64(seed)}
		size := d.next(40)
		list := []pair{{ram.New(size), newModel(size)}}
		for range 1500 {
			i := d.next(len(list))
			step(t, d, list[i])
			if d.next(100) == 0 && len(list) < 5 {
				list = append(list, pair{list[i].r.Copy(), list[i].m.copied()})
			}
			for _, p := range list {
				same(t, p.r, p.m, fmt.Sprintf("seed %d", seed))
			}
		}
	}
}

// step does one call of a memory and of its model.
func step(t *testing.T, d *drawn, p pair) {
	t.Helper()
	size := len(p.m.cells)
	at, n := d.place(size), d.next(7)-1
	switch d.next(4) {
	case 0:
		x, e := p.r.Get(at, n)
		if want, f := p.m.get(at, n); x != want || e != f {
			t.Fatalf("Get(%x, %d): %x (%d), want %x (%d)", at, n, x, e, want, f)
		}
	case 1:
		x := uint32(d.next(1<<31)) * 2654435761
		if e, f := p.r.Put(at, x, n), p.m.put(at, x, n); e != f {
			t.Fatalf("Put(%x, %x, %d): %d, want %d", at, x, n, e, f)
		}
	case 2:
		loadOf(t, p.r, p.m, at, series(d.next(256), d.next(size+2)))
	default:
		bytesOf(t, p.r, p.m, at, d.next(size+3)-1)
	}
}

// P2.1: a copy has the same bytes; what is done to one isn't done to the other, either way, nor to one of two that were made alike.
func TestCopy(t *testing.T) {
	for size := 1; size < 12; size++ {
		r, m := filled(t, size)
		c, other := r.Copy(), ram.New(size)
		same(t, c, m, "the copy")
		kept := m.copied()
		last := uint32(size - 1)
		if r.Put(last, 0x5a, 1) != api.OK || m.put(last, 0x5a, 1) != api.OK {
			t.Fatal("Put")
		}
		same(t, r, m, "the first one, put")
		same(t, c, kept, "the copy, behind a Put")
		if c.Load(0, 0x3c) != api.OK || kept.load(0, []byte{0x3c}) != api.OK {
			t.Fatal("Load")
		}
		same(t, r, m, "the first one, behind a Load")
		same(t, c, kept, "the copy, loaded")
		same(t, other, newModel(size), "another one")
	}
}
