package mmu_test

import (
	"fmt"
	"slices"
	"testing"

	"camshaft/api"
	"camshaft/mmu"
	"camshaft/ram"
)

// drawn is a series of numbers that looks like one by chance, and is the same in every run.
type drawn struct{ last uint64 }

func (d *drawn) next(n int) int {
	d.last = d.last*6364136223846793005 + 1442695040888963407
	return int(d.last >> 33 % uint64(n))
}

func (d *drawn) any() uint32 { return uint32(d.next(1<<31)) * 2654435761 }

// entry: mostly one that lets all be done, in a frame that is there.
func (d *drawn) entry(frames int) uint32 {
	switch d.next(12) {
	case 0:
		return d.any()
	case 1:
		return open(uint32(frames - 1 + d.next(3)))
	case 2:
		return uint32(d.next(32))*0x8000000 + uint32(d.next(frames))
	case 3:
		return 0x80000000 + uint32(d.next(4))*0x8000000 + uint32(d.next(frames))
	case 4:
		return open(uint32(d.next(frames))) + modified
	}
	return open(uint32(d.next(frames)))
}

// tables: mostly two in the memory's first pages, now and then askew, over one another, or with a place that goes round 2^32.
func (d *drawn) tables(size int) api.Tables {
	t := api.Tables{P0BR: uint32(d.next(64)) * 4, P0LR: uint32(d.next(20)), SBR: 256 + uint32(d.next(64))*4, SLR: uint32(d.next(20)), MAPEN: 1}
	switch d.next(10) {
	case 0:
		t.MAPEN = 0
	case 1:
		t.MAPEN = d.any()
	case 2:
		t.SBR = t.P0BR + uint32(d.next(9))
	case 3:
		t.P0BR += uint32(d.next(4))
	case 4:
		t.P0BR = uint32(size - d.next(40))
	case 5:
		t.SBR = -uint32(d.next(40))
	case 6:
		t.P0LR, t.SLR = d.any(), d.any()
	}
	return t
}

// va: mostly in one of the first pages, and near a page's end.
func (d *drawn) va() uint32 {
	va := uint32(d.next(20) * 512)
	switch d.next(4) {
	case 0:
		va += uint32(d.next(512))
	case 1:
		va -= uint32(d.next(6))
	}
	switch d.next(16) {
	case 0, 1, 2, 3:
		va += 0x80000000
	case 4:
		va += 0x40000000
	case 5:
		return d.any()
	}
	return va
}

// count: of bytes; mostly few, now and then many or none.
func (d *drawn) count() int {
	switch d.next(8) {
	case 0:
		return d.next(4097)
	case 1:
		return d.next(1200)
	case 2:
		return -d.next(9)
	}
	return 1 + d.next(8)
}

func (d *drawn) bytes(n, frames int) []byte {
	b := make([]byte, max(n, 0))
	for i := range b {
		b[i] = byte(d.next(256))
	}
	// Such as may go over entries are entries themselves, so that the tables stay of use.
	if d.next(2) == 0 {
		for i := 0; i+4 <= len(b); i += 4 {
			x := d.entry(frames)
			b[i], b[i+1], b[i+2], b[i+3] = byte(x), byte(x>>8), byte(x>>16), byte(x>>24)
		}
	}
	return b
}

// world is a page translation and the model that it is held against.
type world struct {
	r      *ram.Ram
	m      *mmu.Mmu
	w      *model
	frames int
	wrote  []int // where the last call wrote
}

func (d *drawn) world() *world {
	size := []int{4096, 6000, 8192, 3 * 512, 700, 20000}[d.next(6)]
	r := memory(size)
	o := &world{r: r, m: mmu.New(r), frames: size / 512}
	for at := 0; at < 512; at += 4 {
		put(r, uint32(at), d.entry(o.frames))
	}
	o.w = &model{mem: whole(r)}
	o.set(d.tables(size))
	return o
}

func (o *world) set(t api.Tables) {
	o.m.Set(t)
	o.w.set(t)
}

// agree: an answer is the model's.
func agree[T comparable](what string, got, want T) error {
	if got != want {
		return fmt.Errorf("%s: %+v, want %+v", what, got, want)
	}
	return nil
}

// read does one call that reads, in both.
func (o *world) read(d *drawn) (string, error) {
	va, n, user, write := d.va(), d.count(), d.next(2) == 0, d.next(2) == 0
	switch d.next(4) {
	case 0:
		_, want := o.w.access(va, n, user, write, true)
		what := fmt.Sprintf("Probe(%x, %d, %v, %v)", va, n, user, write)
		return what, agree(what, o.m.Probe(va, n, user, write), want)
	case 1:
		b, want := o.w.load(va, n, user)
		got, f := o.m.Load(va, n, user)
		what := fmt.Sprintf("Load(%x, %d, %v)", va, n, user)
		if !slices.Equal(got, b) {
			return what, fmt.Errorf("%s: other bytes", what)
		}
		return what, agree(what, f, want)
	case 2:
		size := d.next(8) - 2
		b, want := o.w.load(va, min(size, 4), user)
		x := uint32(0)
		for i := len(b) - 1; i >= 0; i-- {
			x = x*256 + uint32(b[i])
		}
		got, f := o.m.Get(va, size, user)
		what := fmt.Sprintf("Get(%x, %d, %v): %x, want %x", va, size, user, got, x)
		if got != x {
			return what, fmt.Errorf("%s", what)
		}
		return what, agree(what, f, want)
	}
	places, want := o.w.access(va, 1, user, false, false)
	c := byte(0)
	for _, at := range places {
		c = o.w.mem[at]
	}
	got, f := o.m.Peek(va, user)
	what := fmt.Sprintf("Peek(%x, %v): %x, want %x", va, user, got, c)
	if got != c {
		return what, fmt.Errorf("%s", what)
	}
	return what, agree(what, f, want)
}

// write does one call that writes, in both.
func (o *world) write(d *drawn) (string, error) {
	va, user := d.va(), d.next(2) == 0
	var want api.Fault
	if d.next(2) == 0 {
		b := d.bytes(d.count(), o.frames)
		o.wrote, want = o.w.store(va, user, b)
		what := fmt.Sprintf("Store(%x, %v) of %d", va, user, len(b))
		return what, agree(what, o.m.Store(va, user, b...), want)
	}
	x, size := d.any(), d.next(8)-2
	var b []byte
	for i := range min(size, 4) {
		b = append(b, byte(x>>(8*i)))
	}
	o.wrote, want = o.w.store(va, user, b)
	what := fmt.Sprintf("Put(%x, %d, %v)", va, size, user)
	return what, agree(what, o.m.Put(va, x, size, user), want)
}

// step does one call, in both.
func (o *world) step(d *drawn) (string, error) {
	o.wrote = nil
	switch k := d.next(40); {
	case k == 0:
		t := d.tables(o.r.Size())
		o.set(t)
		what := fmt.Sprintf("Set(%x)", t)
		return what, agree(what, o.m.Tables(), t)
	case k == 1:
		o.m.Clear()
		o.w.rows = nil
		return "Clear", nil
	case k < 6:
		va := d.va()
		o.m.Drop(va)
		o.w.drop(va)
		return fmt.Sprintf("Drop(%x)", va), nil
	case k < 22:
		return o.read(d)
	}
	return o.write(d)
}

// same: the memory, the buffered pages and the tables are the model's.
func (o *world) same() error {
	if got := o.m.Buffered(); !slices.Equal(got, o.w.pages()) {
		return fmt.Errorf("Buffered: %x, want %x", got, o.w.pages())
	}
	if !slices.Equal(whole(o.r), o.w.mem) {
		return fmt.Errorf("the memory is another one")
	}
	return agree("Tables", o.m.Tables(), o.w.t)
}

// P5.1, P5.2: calls in mixed orders, over tables of all kinds that are written over meanwhile.
func TestMixedOrders(t *testing.T) {
	faults := map[int]int{}
	for seed := range 1500 {
		d := &drawn{last: uint64(seed)}
		o := d.world()
		for i := range 60 {
			what, err := o.step(d)
			if err == nil {
				err = o.same()
			}
			if err != nil {
				t.Fatalf("seed %d, step %d, %s, tables %x: %v", seed, i, what, o.w.t, err)
			}
			_, f := o.w.access(d.va(), 1, true, false, false)
			faults[f.Kind]++
		}
	}
	for _, kind := range []int{api.FaultNone, api.FaultBus, api.FaultAccess, api.FaultInvalid} {
		if faults[kind] < 500 {
			t.Errorf("kind %d comes up %d times", kind, faults[kind])
		}
	}
}
