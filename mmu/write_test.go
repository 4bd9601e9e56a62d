package mmu_test

import (
	"slices"
	"testing"

	"camshaft/api"
	"camshaft/mmu"
)

// P5.2: with a fault no byte is changed, on whichever page it is, and none is marked.
func TestFaultChangesNothing(t *testing.T) {
	for _, bad := range []uint32{0, 0x18000008, 0x90000008, 0x88000008, open(99), open(0x1fffff)} {
		for pages := 1; pages <= 9; pages++ {
			for at := range pages {
				var entries []uint32
				for i := range pages {
					entries = append(entries, open(uint32(8+i)))
				}
				entries[at] = bad
				r, m := fronted(entries...)
				before := whole(r)
				// Of nine pages the first one and the last one are asked for some bytes alone, so that they are 4096 at most.
				f := m.Store(0x1f0, true, make([]byte, min(4096, pages*512-0x1f0))...)
				if f.Kind == api.FaultNone || f.Va != max(0x1f0, uint32(at*512)) || f.Info != api.InfoWrite {
					t.Fatalf("%x: %+v", entries, f)
				}
				same(t, "the memory", whole(r), before)
			}
		}
	}
}

// P5.2: a number over two pages, of which the second one mayn't be written, is there with no byte, and the first page isn't marked.
func TestNumberOverFault(t *testing.T) {
	for _, bad := range []uint32{0, 0x18000009, 0x90000009, open(99)} {
		r, m := fronted(open(8), bad)
		before := whole(r)
		for va := uint32(0x1fd); va < 0x200; va++ {
			f := m.Put(va, 0xffffffff, 4, true)
			same(t, "where", f.Va, 0x200)
			same(t, "the memory", whole(r), before)
		}
		same(t, "within the first page", m.Put(0x1fc, 1, 4, true), fine)
		before[base+3] |= 4
		copy(before[8*512+0x1fc:], []byte{1, 0, 0, 0})
		same(t, "the memory", whole(r), before)
	}
}

// P5.2: without a fault just the bytes are changed, and the bit of their pages' entries.
func TestJustTheBytes(t *testing.T) {
	for _, user := range []bool{false, true} {
		for va := uint32(0); va < 1024; va += 31 {
			for _, n := range []int{1, 2, 4, 100, 512, 513} {
				r, m := straight(4)
				want := whole(r)
				b := make([]byte, n)
				for i := range b {
					at := 8*512 + int(va) + i
					b[i] = want[at] + 1
					want[at]++
					want[base+4*((int(va)+i)/512)+3] |= 4
				}
				same(t, "Store", m.Store(va, user, b...), fine)
				if !slices.Equal(whole(r), want) {
					t.Fatalf("Store(%x) of %d bytes", va, n)
				}
			}
		}
	}
}

// P5.2: a page's entry that isn't Modified in the buffer becomes so there and in the memory, whatever the one in the memory is by now.
func TestMarkOfBuffered(t *testing.T) {
	for _, now := range []uint32{open(8), 0, 0x18000008, 0x88000009, 0xfbffffff, 0xffffffff, modified} {
		r, m := straight(2)
		m.Probe(0, 1, true, true)
		same(t, "Probe marks nothing", long(r, base), open(8))
		put(r, base, now)
		same(t, "Put", m.Put(1, 5, 1, true), fine)
		same(t, "the entry in the memory", long(r, base), now|modified)
		// It is Modified in the buffer from now on: nothing is done to the memory any more.
		put(r, base, now&^modified)
		same(t, "Put", m.Put(1, 5, 1, true), fine)
		same(t, "the entry in the memory", long(r, base), now&^modified)
		m.Clear()
		put(r, base, open(8))
		same(t, "Put", m.Put(1, 5, 1, true), fine)
		same(t, "read anew", long(r, base), open(8)+modified)
	}
}

// P5.2: an entry that was Modified when it was buffered isn't marked anew in the memory; one that wasn't buffered is taken as it is.
func TestMarkOfModified(t *testing.T) {
	r, m := fronted(open(8)+modified, open(9)+modified)
	before := whole(r)
	same(t, "Put", m.Put(0x200, 5, 1, true), fine)
	before[9*512] = 5
	same(t, "the memory", whole(r), before)
	put(r, base+4, open(9))
	same(t, "Put", m.Put(0x200, 6, 1, true), fine)
	same(t, "the entry", long(r, base+4), open(9))
	m.Drop(0x3ff)
	same(t, "Put", m.Put(0x200, 7, 1, true), fine)
	same(t, "the entry behind Drop", long(r, base+4), open(9)+modified)
}

// P5.2: reads, Probe and Peek mark nothing, and neither does a write of no bytes.
func TestReadsMarkNothing(t *testing.T) {
	r, m := straight(4)
	before := whole(r)
	for range 2 {
		m.Probe(0, 1024, true, true)
		m.Probe(0, 1024, false, false)
		m.Load(0x100, 600, true)
		m.Get(0x3fe, 4, false)
		m.Peek(0x600, true)
		m.Store(0x200, true)
		m.Put(0x200, 1, 0, true)
		m.Buffered()
		same(t, "the memory", whole(r), before)
	}
	m.Drop(0)
	m.Clear()
	m.Set(odd)
	same(t, "the memory", whole(r), before)
}

// P5.2: without MAPEN nothing is marked, whatever the tables are.
func TestNoMarksWithoutTables(t *testing.T) {
	r, m := straight(4)
	tables := m.Tables()
	m.Probe(0, 2048, true, true)
	tables.MAPEN = 0
	m.Set(tables)
	want := whole(r)
	same(t, "Put", m.Put(0x5fe, 0x01020304, 4, true), fine)
	copy(want[0x5fe:], []byte{4, 3, 2, 1})
	same(t, "the memory", whole(r), want)
}

// P5.2: a write over more than TlbSize pages marks all, also those that aren't buffered any more; they don't come back for it.
func TestMarksOfManyPages(t *testing.T) {
	for _, first := range []uint32{0x1ff, 0x200} {
		r, m := straight(12)
		want := whole(r)
		b := make([]byte, 4096)
		n := 8
		if first == 0x1ff {
			n = 9
		}
		for i := range n {
			want[base+4*(int(first)/512+i)+3] |= 4
		}
		clear(want[8*512+int(first) : 8*512+int(first)+4096])
		same(t, "Store", m.Store(first, true, b...), fine)
		same(t, "the memory", whole(r), want)
		if n == 8 {
			buffered(t, m, 1, 2, 3, 4, 5, 6, 7, 8)
		} else {
			buffered(t, m, 1, 2, 3, 4, 5, 6, 7, 8)
			same(t, "the first one was marked", long(r, base), open(8)+modified)
		}
		// Of those that are buffered the buffered entries are Modified, too.
		for i := range uint32(12) {
			put(r, base+4*i, open(8+i))
		}
		for i := range uint32(8) {
			same(t, "Put", m.Put((1+i)*512, 0, 1, true), fine)
			same(t, "an entry that is Modified in the buffer", long(r, base+4*(1+i)), open(9+i))
		}
		same(t, "Put", m.Put(0, 0, 1, true), fine)
		same(t, "an entry that isn't buffered", long(r, base), open(8)+modified)
	}
}

// P5.2: both tables' entries are marked, each in its own table; two that have one entry in common share the mark in the memory.
func TestMarksOfBothTables(t *testing.T) {
	r, m := straight(2)
	put(r, sbase, open(20), open(21))
	m.Set(api.Tables{P0BR: base, P0LR: 2, SBR: sbase, SLR: 2, MAPEN: 1})
	same(t, "Put", m.Put(0x80000200, 1, 1, true), fine)
	same(t, "its entry", long(r, sbase+4), open(21)+modified)
	same(t, "the other's", long(r, base+4), open(9))
	m.Set(api.Tables{P0BR: base, P0LR: 2, SBR: base, SLR: 2, MAPEN: 1})
	same(t, "Probe", m.Probe(0x80000000, 1, true, false), fine)
	same(t, "Put", m.Put(0, 1, 1, true), fine)
	same(t, "their entry", long(r, base), open(8)+modified)
	put(r, base, open(8))
	same(t, "Put", m.Put(0x80000000, 1, 1, true), fine)
	same(t, "their entry", long(r, base), open(8)+modified)
}

// P5.1, P5.2: bytes written over the tables: marks come first, so that bytes may go over them; what is buffered is used as it was.
func TestWritesOverTheTables(t *testing.T) {
	// Page 0 lies where the table is.
	r, m := fronted(open(1), open(9))
	same(t, "an entry over itself", m.Put(0, open(10), 4, true), fine)
	same(t, "the entry", long(r, base), open(10))
	x, f := m.Get(0, 4, true)
	same(t, "fault", f, fine)
	same(t, "the buffered one is used", x, open(10))
	same(t, "Put", m.Put(8, 7, 1, true), fine)
	same(t, "Modified in the buffer: it isn't marked", long(r, base), open(10))
	m.Drop(0)
	x, _ = m.Get(0, 4, true)
	same(t, "the new one", x, long(r, 10*512))
	// Now page 1's entry, through page 0, ahead of its own use.
	r, m = fronted(open(1), 0)
	same(t, "mayn't be used", m.Probe(0x200, 1, true, true), fault(api.FaultAccess, 0x200, 0, true))
	same(t, "Put", m.Put(4, open(11), 4, true), fine)
	same(t, "Put", m.Put(0x203, 0x55, 1, true), fine)
	same(t, "the byte", byte(long(r, 11*512+3)), 0x55)
	same(t, "page 0's entry", long(r, base), open(1)+modified)
	same(t, "page 1's entry", long(r, base+4), open(11)+modified)
}

// P5.1, P5.2: one write over two pages, of which the first one holds both entries: marks, then bytes; the places are those from ahead of them.
func TestOneWriteOverItsOwnEntries(t *testing.T) {
	r := memory(0x4000)
	at := uint32(0x3f8)
	put(r, at, open(1), open(9))
	m := mmu.New(r)
	m.Set(api.Tables{P0BR: at, P0LR: 2, MAPEN: 1})
	want := whole(r)
	b := []byte{1, 2, 3, 4, 5, 6, 7, 8, 9, 10}
	copy(want[0x3f8:], b[:8])
	copy(want[9*512:], b[8:])
	same(t, "Store", m.Store(0x1f8, true, b...), fine)
	same(t, "the memory", whole(r), want)
	// Both are Modified in the buffer, though not in the memory.
	same(t, "Store", m.Store(0x1f8, true, 0, 0, 0, 0x98, 0, 0, 0, 0x98, 77), fine)
	same(t, "the first entry", long(r, at), 0x98000000)
	same(t, "the second entry", long(r, at+4), 0x98000000)
	same(t, "the last byte", byte(long(r, 9*512)), 77)
}

// P5.1: two pages in one frame: the bytes are put in their order, so that the last ones stay.
func TestTwoPagesInOneFrame(t *testing.T) {
	r, m := fronted(open(8), open(8))
	b := make([]byte, 1024)
	for i := range b {
		b[i] = byte(i / 512 * 9)
	}
	same(t, "Store", m.Store(0, true, b...), fine)
	got, _ := r.Bytes(8*512, 512)
	same(t, "the frame", got, b[512:])
}

// P5.1, P5.2: tables that stand askew over one another: marks are made one after the other, on what is there by then, but places stay.
func TestTablesAskew(t *testing.T) {
	// The system's entry of page 0 begins one byte behind the user's: the user's mark is a bit of the other's frame.
	r := memory(0x4000)
	put(r, base, open(8))
	r.Put(base+4, 0x98, 1)
	m := mmu.New(r)
	m.Set(api.Tables{P0BR: base, P0LR: 1, SBR: base + 1, SLR: 1, MAPEN: 1})
	same(t, "the other's entry", long(r, base+1), 0x98980000)
	f := m.Probe(0x80000000, 1, false, false)
	same(t, "it lies beyond the memory", f, fault(api.FaultBus, 0x80000000, 0, false))
	same(t, "Put", m.Put(0, 1, 1, true), fine)
	same(t, "the entries", long(r, base+1), 0x989c0000)
	same(t, "Put", m.Put(0, 1, 1, true), fine)
	same(t, "the entries", long(r, base), open(8)+modified)
}

// P5.1: two over one memory see what the other one writes, but have buffers and tables of their own.
func TestTwoOverOneMemory(t *testing.T) {
	r, m := straight(2)
	other := mmu.New(r)
	same(t, "Put", m.Put(5, 0x77, 1, true), fine)
	x, f := other.Get(8*512+5, 1, true)
	same(t, "fault", f, fine)
	same(t, "Get", x, 0x77)
	same(t, "Put", other.Put(base, 0, 4, true), fine)
	x, f = m.Get(5, 1, true)
	same(t, "fault", f, fine)
	same(t, "Get", x, 0x77)
	other.Clear()
	buffered(t, m, 0)
	buffered(t, other)
	same(t, "Tables", other.Tables(), api.Tables{})
}
