package mmu_test

import (
	"fmt"
	"math"
	"slices"
	"testing"

	"camshaft/api"
	"camshaft/mmu"
	"camshaft/ram"
)

// P5.1: the chapter's example.
func TestExample(t *testing.T) {
	r := memory(1024)
	put(r, 512, 0x98000000)
	m := mmu.New(r)
	m.Set(api.Tables{P0BR: 512, P0LR: 1, MAPEN: 1})
	b, f := m.Load(3, 1, true)
	same(t, "fault", f, fine)
	same(t, "the byte at 3", b, []byte{3*7 + 1})
	same(t, "200", m.Probe(0x200, 1, true, false), api.Fault{Kind: api.FaultAccess, Va: 0x200, Info: api.InfoLength})
}

// P5.1: a new one, over memories of several lengths.
func TestNew(t *testing.T) {
	for _, size := range []int{0, 1, 511, 512, 513, 4096, api.MaxMemory} {
		m := mmu.New(memory(size))
		same(t, "Tables", m.Tables(), api.Tables{})
		buffered(t, m)
		same(t, "the last bytes", m.Probe(uint32(max(0, size-4096)), min(size, 4096), true, true), fine)
		same(t, "the end", m.Probe(uint32(size), 1, false, false), api.Fault{Kind: api.FaultBus, Va: uint32(size)})
	}
}

// P5.1: one over a nil memory has no bytes, with tables or without.
func TestNilMemory(t *testing.T) {
	m := mmu.New(nil)
	same(t, "Tables", m.Tables(), api.Tables{})
	for _, tables := range []api.Tables{{}, {P0LR: 1, SLR: 1, MAPEN: 1}} {
		m.Set(tables)
		same(t, "Tables", m.Tables(), tables)
		for _, va := range []uint32{0, 5, 0x80000000} {
			same(t, "Probe to write", m.Probe(va, 1, false, true), api.Fault{Kind: api.FaultBus, Va: va, Info: api.InfoWrite})
			b, f := m.Load(va, 1, true)
			same(t, "Load", len(b), 0)
			same(t, "Load", f, api.Fault{Kind: api.FaultBus, Va: va})
			same(t, "Store", m.Store(va, true, 1), api.Fault{Kind: api.FaultBus, Va: va, Info: api.InfoWrite})
			c, f := m.Peek(va, true)
			same(t, "Peek", c, 0)
			same(t, "Peek", f, api.Fault{Kind: api.FaultBus, Va: va})
			same(t, "no bytes", m.Store(va, true), fine)
		}
		buffered(t, m)
	}
}

// P5.1: the tables are those that were set last, and nothing is buffered behind Set, though they were the same before.
func TestSet(t *testing.T) {
	r, m := straight(3)
	tables := api.Tables{P0BR: base, P0LR: 3, MAPEN: 1}
	same(t, "Tables", m.Tables(), tables)
	m.Probe(0, 1024, true, false)
	buffered(t, m, 0, 1)
	m.Set(tables)
	buffered(t, m)
	m.Probe(0, 1, true, false)
	put(r, base, 0)
	m.Set(tables)
	same(t, "the changed entry", m.Probe(0, 1, true, false).Kind, api.FaultAccess)
	m.Set(odd)
	same(t, "Tables", m.Tables(), odd)
	m.Set(api.Tables{})
	same(t, "Tables", m.Tables(), api.Tables{})
}

// P5.1: behind Clear nothing is buffered, and the tables are as they were.
func TestClear(t *testing.T) {
	r, m := straight(3)
	before := m.Tables()
	m.Probe(0, 1536, true, false)
	buffered(t, m, 0, 1, 2)
	m.Clear()
	buffered(t, m)
	same(t, "Tables", m.Tables(), before)
	put(r, base+4, 0)
	same(t, "the changed entry", m.Probe(0, 1024, false, false), api.Fault{Kind: api.FaultAccess, Va: 0x200})
	buffered(t, m, 0)
	m.Clear()
	m.Clear()
	buffered(t, m)
}

// P5.1: Drop is of a page, by any of its addresses; the page of the other table with the same place in it is another one.
func TestDrop(t *testing.T) {
	for _, va := range []uint32{0x200, 0x201, 0x2ff, 0x300, 0x3ff} {
		r, m := straight(3)
		put(r, sbase, open(9), open(9))
		m.Set(api.Tables{P0BR: base, P0LR: 3, SBR: sbase, SLR: 2, MAPEN: 1})
		m.Probe(0x80000200, 1, false, false)
		m.Probe(0, 1536, true, false)
		buffered(t, m, 0x400001, 0, 1, 2)
		m.Drop(va + 0x10000000)
		m.Drop(va + 0x40000000)
		m.Drop(0x600)
		buffered(t, m, 0x400001, 0, 1, 2)
		m.Drop(va)
		buffered(t, m, 0x400001, 0, 2)
		m.Drop(va)
		m.Drop(0x80000000 + va)
		buffered(t, m, 0, 2)
		put(r, base+4, 0)
		same(t, "the dropped one is read anew", m.Probe(va, 1, true, false), api.Fault{Kind: api.FaultAccess, Va: va})
	}
}

// P5.1: pages are buffered in the order in which they came; the eldest one makes room; the answer is new memory.
func TestBuffered(t *testing.T) {
	_, m := straight(12)
	for _, page := range []uint32{5, 3, 5, 7, 0, 3, 1, 2, 4, 6} {
		m.Peek(page*512+9, true)
		m.Get(page*512+page, 1, true)
	}
	buffered(t, m, 5, 3, 7, 0, 1, 2, 4, 6)
	m.Get(5*512, 1, false)
	m.Get(11*512, 1, false)
	want := []uint32{3, 7, 0, 1, 2, 4, 6, 11}
	buffered(t, m, want...)
	first := m.Buffered()
	clear(first)
	first = append(first[:3], 99)
	buffered(t, m, want...)
	second := m.Buffered()
	m.Drop(3 * 512)
	m.Get(0xa00, 1, true)
	if !slices.Equal(second, want) {
		t.Fatal("an answer is changed by later calls")
	}
}

// P5.1: without MAPEN each address lies where it says, for all; whatever stands in the tables.
func TestWithoutTables(t *testing.T) {
	for _, tables := range []api.Tables{{}, {P0BR: 0, P0LR: 8, SBR: 4, SLR: 8}, {P0BR: 0xffffffff, P0LR: 0xffffffff}} {
		r := memory(1300)
		m := mmu.New(r)
		m.Set(tables)
		for va := range uint32(1300) {
			user := va%3 == 0
			b, f := m.Load(va, 1, user)
			want, _ := r.Bytes(va, 1)
			same(t, fmt.Sprintf("Load(%d)", va), f, fine)
			same(t, fmt.Sprintf("Load(%d)", va), b, want)
			c, f := m.Peek(va, user)
			same(t, fmt.Sprintf("Peek(%d)", va), f, fine)
			same(t, fmt.Sprintf("Peek(%d)", va), c, want[0])
			same(t, fmt.Sprintf("Put(%d)", va), m.Put(va, va+5, 1, user), fine)
			same(t, fmt.Sprintf("behind Put(%d)", va), whole(r)[va], byte(va+5))
		}
		buffered(t, m)
	}
}

// P5.1: without MAPEN the end of the memory is FaultBus, at the page's first byte asked.
func TestTheEndWithoutTables(t *testing.T) {
	const size = 1300
	tests := []struct {
		va   uint32
		n    int
		want uint32 // where the fault is; 0: there is none
	}{
		{size - 1, 1, 0}, {size, 1, size}, {size - 1, 2, size - 1}, {size - 3, 3, 0}, {size - 3, 4, size - 3},
		{1023, size - 1023, 0}, {1023, size - 1022, 1024}, {0, size, 0}, {0, size + 1, 1024}, {500, size - 499, 1024}, {0, 4096, 1024},
		{0x40000000, 1, 0x40000000}, {0x80000000, 1, 0x80000000}, {0xfffffe00, 512, 0xfffffe00}, {math.MaxUint32, 1, math.MaxUint32}, {math.MaxUint32, 2, math.MaxUint32},
		{math.MaxUint32, 4, math.MaxUint32}, {0xfffffe00, 600, 0xfffffe00},
	}
	m := mmu.New(memory(size))
	for _, x := range tests {
		for _, write := range []bool{false, true} {
			want := fine
			if x.want != 0 {
				want = fault(api.FaultBus, x.want, 0, write)
			}
			same(t, fmt.Sprintf("Probe(%x, %d)", x.va, x.n), m.Probe(x.va, x.n, true, write), want)
		}
	}
	buffered(t, m)
}

// P5.1: any number of MAPEN but 0 lets the tables be used.
func TestAnyMapen(t *testing.T) {
	for _, mapen := range []uint32{1, 2, 3, 0x80000000, 0xfffffffe, 0xffffffff} {
		r, m := straight(1)
		m.Set(api.Tables{P0BR: base, P0LR: 1, MAPEN: mapen})
		same(t, "Tables", m.Tables().MAPEN, mapen)
		x, f := m.Get(7, 4, true)
		same(t, "fault", f, fine)
		same(t, "Get", x, long(r, 8*512+7))
		same(t, "beyond", m.Probe(512, 1, true, false), fault(2, 512, 1, false))
		same(t, "Put", m.Put(0, 1, 1, true), fine)
		same(t, "its mark", long(r, base), open(8)+modified)
	}
}

// P5.1: bit 31 tells the table, bits 9 to 29 the page, and there is none with bit 30.
func TestWhichEntry(t *testing.T) {
	r := memory(0x4000)
	put(r, base, open(8), open(9), open(10))
	put(r, sbase, open(16), open(17))
	m := mmu.New(r)
	m.Set(api.Tables{P0BR: base, P0LR: 3, SBR: sbase, SLR: 2, MAPEN: 1})
	for va, frame := range map[uint32]uint32{0: 8, 0x1ff: 8, 0x200: 9, 0x3ff: 9, 0x400: 10, 0x5ff: 10, 0x80000000: 16, 0x800001ff: 16, 0x80000200: 17, 0x800003ff: 17} {
		want, _ := r.Bytes(frame*512+va%512, 1)
		b, f := m.Load(va, 1, false)
		same(t, fmt.Sprintf("Load(%x)", va), f, fine)
		same(t, fmt.Sprintf("Load(%x)", va), b, want)
	}
	buffers := len(m.Buffered())
	for _, va := range []uint32{0x600, 0x7ff, 0x10000000, 0x3ffffe00, 0x3fffffff, 0x40000000, 0x400001ff, 0x40000200, 0x7fffffff, 0x80000400, 0x9fffffff, 0xbfffffff, 0xc0000000, 0xc0000200, 0xffffffff} {
		for _, write := range []bool{false, true} {
			same(t, fmt.Sprintf("Probe(%x)", va), m.Probe(va, 1, false, write), fault(api.FaultAccess, va, api.InfoLength, write))
		}
		b, f := m.Peek(va, false)
		same(t, fmt.Sprintf("Peek(%x)", va), b, 0)
		same(t, fmt.Sprintf("Peek(%x)", va), f, fault(api.FaultAccess, va, api.InfoLength, false))
	}
	same(t, "buffered pages", len(m.Buffered()), buffers)
}

// P5.1: the page at the table's length and beyond, and the one below it, of tables of any length.
func TestLengths(t *testing.T) {
	const all = 1 << 21
	for _, length := range []uint32{0, 1, 2, 31, 32, 1000, all - 1, all, all + 1, 0x80000000, 0xffffffff} {
		m := mmu.New(memory(16))
		// The tables' other length is no hindrance, and no help.
		for _, of := range []struct {
			tables api.Tables
			first  uint32
		}{
			{api.Tables{P0BR: 100, P0LR: length, SLR: all, MAPEN: 1}, 0},
			{api.Tables{SBR: 100, SLR: length, P0LR: 0, MAPEN: 1}, 0x80000000},
		} {
			m.Set(of.tables)
			for _, page := range []uint32{0, length - 1, length, length + 1, all - 1} {
				va := of.first + page%all*512 + 3
				want := fault(api.FaultAccess, va, api.InfoLength, false)
				if page%all < length {
					want = fault(api.FaultBus, va, 0, false)
				}
				same(t, fmt.Sprintf("length %x, Probe(%x)", length, va), m.Probe(va, 1, false, false), want)
			}
		}
		buffered(t, m)
	}
}

// P5.1: an entry's four bytes must all be there; its place is reckoned modulo 2^32.
func TestEntriesThatAreNotThere(t *testing.T) {
	const size = 1024
	tests := []struct {
		at, page uint32
		there    bool
	}{
		{size - 4, 0, true}, {size - 3, 0, false}, {size - 1, 0, false}, {size, 0, false}, {size - 8, 1, true}, {size - 7, 1, false}, {size - 4, 1, false},
		{0xfffffffc, 0, false}, {0xffffffff, 0, false}, {0xfffffffe, 0, false},
		{0xfffffffc, 1, true}, {0xfffffffd, 1, true}, {0xffffffff, 1, true}, {0xffffff00, 64, true}, {0xffffff00, 63, false},
		{0xff800000, 0x1fffff, false}, {0xff800004, 0x1fffff, true}, {0xff800000 + size, 0x1fffff, true}, {0xff800000 + size + 1, 0x1fffff, false}, {0x80000000, 0, false},
	}
	for _, x := range tests {
		for _, first := range []uint32{0, 0x80000000} {
			r := memory(size)
			put(r, x.at+4*x.page, 0x98000001)
			m := mmu.New(r)
			m.Set(api.Tables{P0BR: x.at, P0LR: 1 << 21, SBR: x.at, SLR: 1 << 21, MAPEN: 1})
			va := first + x.page*512 + 5
			what := fmt.Sprintf("a table at %x, Probe(%x)", x.at, va)
			if x.there {
				same(t, what, m.Probe(va, 1, true, true), fine)
				buffered(t, m, va/512)
				continue
			}
			same(t, what, m.Probe(va, 1, true, true), fault(api.FaultBus, va, 0, true))
			same(t, what, m.Probe(va, 1, false, false), fault(api.FaultBus, va, 0, false))
			buffered(t, m)
		}
	}
}

// P5.1: each protection, of pages that are there and that aren't: who mayn't use a page isn't told that it isn't there.
func TestProtections(t *testing.T) {
	for prot := range uint32(4) {
		for _, valid := range []bool{false, true} {
			for k := range 4 {
				user, write := k&1 != 0, k&2 != 0
				entry := prot*0x8000000 + 9
				want := fault(api.FaultInvalid, 3, 0, write)
				if valid {
					entry += 0x80000000
					want = fine
				}
				if !may(entry, user, write) {
					want = fault(api.FaultAccess, 3, 0, write)
				}
				_, m := fronted(entry)
				what := fmt.Sprintf("entry %x, user %v, write %v", entry, user, write)
				same(t, what, m.Probe(3, 1, user, write), want)
				same(t, what, m.Probe(3, 1, user, write), want)
				if want == fine {
					buffered(t, m, 0)
				} else {
					buffered(t, m)
				}
				if !write {
					m.Clear()
					_, f := m.Peek(3, user)
					same(t, what+", Peek", f, want)
					_, f = m.Get(3, 1, user)
					same(t, what+", Get", f, want)
				} else {
					same(t, what+", Put", m.Put(3, 0, 1, user), want)
				}
			}
		}
	}
}

// P5.1: what a buffered entry doesn't let be done is a fault, too, and it stays buffered.
func TestBufferedProtections(t *testing.T) {
	_, m := fronted(0x88000008, 0x90000009)
	same(t, "the kernel reads", m.Probe(0, 1024, false, false), fine)
	buffered(t, m, 0, 1)
	same(t, "the user reads 0", m.Probe(0, 1, true, false), fault(api.FaultAccess, 0, 0, false))
	same(t, "the user reads 1", m.Probe(0x203, 1, true, false), fine)
	same(t, "the user writes 1", m.Probe(0x203, 1, true, true), fault(api.FaultAccess, 0x203, 0, true))
	same(t, "the kernel writes both", m.Probe(0x1ff, 2, false, true), fine)
	buffered(t, m, 0, 1)
}

// P5.1: a frame behind the memory's end, one that ends within it, and the greatest one.
func TestFramesThatAreNotThere(t *testing.T) {
	r := memory(0x1001)
	put(r, base, open(7), open(8), open(9), open(0x1fffff))
	m := mmu.New(r)
	m.Set(api.Tables{P0BR: base, P0LR: 4, MAPEN: 1})
	tests := []struct {
		va uint32
		n  int
		at uint32 // 1: there is no fault
	}{
		{0x1ff, 1, 1}, {0x1ff, 2, 1}, {0x200, 1, 1}, {0x200, 2, 0x200}, {0x201, 1, 0x201}, {0x1ff, 3, 0x200}, {0x3ff, 1, 0x3ff},
		{0x400, 1, 0x400}, {0x5ff, 1, 0x5ff}, {0x600, 1, 0x600}, {0x7ff, 1, 0x7ff}, {0, 0x201, 1}, {0, 0x202, 0x200},
	}
	for _, x := range tests {
		for _, write := range []bool{false, true} {
			m.Clear()
			want := fine
			if x.at != 1 {
				want = fault(api.FaultBus, x.at, 0, write)
			}
			same(t, fmt.Sprintf("Probe(%x, %d)", x.va, x.n), m.Probe(x.va, x.n, true, write), want)
			// The entry is buffered though the bytes aren't there.
			last := x.va + uint32(x.n) - 1
			if x.va/512 == last/512 {
				buffered(t, m, x.va/512)
			} else {
				buffered(t, m, x.va/512, last/512)
			}
		}
	}
}

// P5.1: what other bits of an entry are is nothing to an access, and they stay as they are.
func TestOtherBits(t *testing.T) {
	r, m := fronted(open(8) + 0x63e00000)
	x, f := m.Get(1, 4, true)
	same(t, "fault", f, fine)
	same(t, "Get", x, long(r, 8*512+1))
	same(t, "Put", m.Put(2, 0, 1, true), fine)
	same(t, "the entry", long(r, base), open(8)+0x63e00000+modified)
}

// P5.1: a buffered entry is used, though the one in the memory is another one meanwhile, till it goes.
func TestBufferedEntryIsUsed(t *testing.T) {
	r, m := straight(10)
	m.Probe(0, 1, true, false)
	for _, entry := range []uint32{0, open(9), 0x88000008, 0x18000008, open(0x1fffff)} {
		put(r, base, entry)
		x, f := m.Get(6, 2, true)
		same(t, "fault", f, fine)
		same(t, "Get", x, long(r, 8*512+6)&0xffff)
		c, f := m.Peek(6, true)
		same(t, "fault", f, fine)
		same(t, "Peek", c, byte(long(r, 8*512+6)))
		same(t, "Put", m.Put(6, entry>>3, 2, true), fine)
		same(t, "behind Put", long(r, 8*512+6)&0xffff, entry>>3&0xffff)
	}
	m.Probe(0x200, 7*512, true, false)
	same(t, "it is buffered yet", m.Probe(0, 1, true, false), fine)
	m.Probe(9*512, 1, true, false)
	same(t, "it made room", m.Probe(0, 1, true, false), fault(api.FaultBus, 0, 0, false))
}

// P5.1: what is buffered behind an access: the pages up to the first fault, and that one, too, if just its bytes aren't there.
func TestWhatIsBuffered(t *testing.T) {
	good := open(8)
	tests := []struct {
		entries []uint32
		va      uint32
		n       int
		kind    int
		at      uint32
		info    uint32
		want    []uint32
	}{
		{[]uint32{good}, 3, 1, 0, 0, 0, []uint32{0}},
		{[]uint32{0}, 3, 1, api.FaultAccess, 3, 0, nil},
		{[]uint32{0x18000008}, 3, 1, api.FaultInvalid, 3, 0, nil},
		{[]uint32{open(99)}, 3, 1, api.FaultBus, 3, 0, []uint32{0}},
		{[]uint32{}, 3, 1, api.FaultAccess, 3, 1, nil},
		{[]uint32{good, good}, 0x1ff, 2, 0, 0, 0, []uint32{0, 1}},
		{[]uint32{good, good}, 0x200, 2, 0, 0, 0, []uint32{1}},
		{[]uint32{good, 0}, 0x1ff, 2, api.FaultAccess, 0x200, 0, []uint32{0}},
		{[]uint32{good, 0}, 0x1fe, 2, 0, 0, 0, []uint32{0}},
		{[]uint32{good}, 0x1fe, 4, api.FaultAccess, 0x200, 1, []uint32{0}},
		{[]uint32{0, good}, 0x1fe, 4, api.FaultAccess, 0x1fe, 0, nil},
		{[]uint32{open(99), good}, 0x1fe, 4, api.FaultBus, 0x1fe, 0, []uint32{0}},
		{[]uint32{good, open(99), good}, 0x1fe, 600, api.FaultBus, 0x200, 0, []uint32{0, 1}},
		{[]uint32{good, good, 0x18000008, good}, 5, 2000, api.FaultInvalid, 0x400, 0, []uint32{0, 1}},
		{[]uint32{good, good, good, good}, 5, 2000, 0, 0, 0, []uint32{0, 1, 2, 3}},
		{[]uint32{good, good, good, good}, 5, 2048, api.FaultAccess, 0x800, 1, []uint32{0, 1, 2, 3}},
		{[]uint32{good, good, good, good}, 0, 2048, 0, 0, 0, []uint32{0, 1, 2, 3}},
	}
	for _, x := range tests {
		for k := range 4 {
			user, write := k&1 != 0, k&2 != 0
			_, m := fronted(x.entries...)
			want := fine
			if x.kind != 0 {
				want = fault(x.kind, x.at, x.info, write)
			}
			what := fmt.Sprintf("%x, Probe(%x, %d)", x.entries, x.va, x.n)
			same(t, what, m.Probe(x.va, x.n, user, write), want)
			buffered(t, m, x.want...)
			same(t, what+" again", m.Probe(x.va, x.n, user, write), want)
			buffered(t, m, x.want...)
		}
	}
}

// P5.1: over more than TlbSize pages just the last ones are buffered; pages that were, and make room meanwhile, are read anew.
func TestManyPages(t *testing.T) {
	r, m := straight(12)
	same(t, "10 pages", m.Probe(3*512-1, 9*512+1, true, false), fine)
	buffered(t, m, 4, 5, 6, 7, 8, 9, 10, 11)
	put(r, base+4*4, 0)
	same(t, "a buffered page", m.Probe(4*512, 512, true, false), fine)
	same(t, "it makes room for the one ahead of it", m.Probe(3*512, 1024, true, false), fault(api.FaultAccess, 4*512, 0, false))
	buffered(t, m, 5, 6, 7, 8, 9, 10, 11, 3)
}

// P5.1: addresses go on behind 2^32 with 0; those ahead of it have no page.
func TestRoundTheEnd(t *testing.T) {
	_, m := straight(3)
	tables := m.Tables()
	tables.SBR, tables.SLR = base, 0xffffffff
	m.Set(tables)
	for _, va := range []uint32{0xfffffe00, 0xfffffffc, 0xffffffff} {
		for _, n := range []int{1, 2, 4, 512, 4096} {
			want := fault(api.FaultAccess, va, api.InfoLength, false)
			same(t, fmt.Sprintf("Probe(%x, %d)", va, n), m.Probe(va, n, false, false), want)
			_, f := m.Load(va, n, false)
			same(t, fmt.Sprintf("Load(%x, %d)", va, n), f, want)
		}
		same(t, fmt.Sprintf("Put(%x)", va), m.Put(va, 0, 4, false), fault(api.FaultAccess, va, api.InfoLength, true))
	}
	buffered(t, m)
	same(t, "from 3ffffffe on", m.Probe(0x3ffffffe, 4, false, false), fault(api.FaultAccess, 0x3ffffffe, api.InfoLength, false))
	same(t, "from 7ffffffe on", m.Probe(0x7ffffffe, 4, false, false), fault(api.FaultAccess, 0x7ffffffe, api.InfoLength, false))
}

// P5.1: from the last page that can be on, and from the last one ahead of the other table's, the next page has none.
func TestLastPages(t *testing.T) {
	const size = 1 << 20
	r := ram.New(size)
	m := mmu.New(r)
	m.Set(api.Tables{P0BR: 0xff800000 + 0x100, P0LR: 1 << 21, SBR: 0xff800000 + 0x200, SLR: 1 << 21, MAPEN: 1})
	put(r, 0xfc, open(16))
	put(r, 0x1fc, open(17))
	for va, frame := range map[uint32]uint32{0x3ffffffe: 16, 0xbffffffe: 17} {
		r.Put(frame*512+510, 0xabcd, 2)
		x, f := m.Get(va, 2, true)
		same(t, "fault", f, fine)
		same(t, "Get", x, 0xabcd)
		same(t, "and one more", m.Probe(va, 3, true, false), fault(api.FaultAccess, va+2, api.InfoLength, false))
		buffered(t, m, va/512)
		m.Clear()
	}
}

// P5.1: no bytes have no fault, wherever they are, and nothing is buffered for them.
func TestNoBytes(t *testing.T) {
	for _, tables := range []api.Tables{{}, {P0BR: base, P0LR: 1, MAPEN: 1}} {
		r := memory(0x2000)
		put(r, base, open(8))
		m := mmu.New(r)
		m.Set(tables)
		before := whole(r)
		for _, va := range []uint32{0, 1, 0x1ff, 0x200, 0x40000000, 0x80000000, 0xffffffff} {
			for _, n := range []int{0, -1, -512, -4096, math.MinInt} {
				same(t, "Probe", m.Probe(va, n, true, n%2 == 0), fine)
				b, f := m.Load(va, n, true)
				same(t, "Load", f, fine)
				same(t, "Load", len(b), 0)
				x, f := m.Get(va, n, true)
				same(t, "Get", f, fine)
				same(t, "Get", x, 0)
				same(t, "Put", m.Put(va, 0x12345678, n, true), fine)
			}
			same(t, "Store", m.Store(va, true), fine)
			same(t, "Store", m.Store(va, true, []byte{}...), fine)
		}
		buffered(t, m)
		same(t, "the memory", whole(r), before)
	}
}

// P5.1: Probe of some bytes, of those up to the page's end, and over it.
func TestProbe(t *testing.T) {
	_, m := straight(2)
	for va := range uint32(1024) {
		left := 1024 - int(va)
		for _, n := range []int{1, min(2, left), min(4, left), left - 1, left} {
			same(t, fmt.Sprintf("Probe(%x, %d)", va, n), m.Probe(va, n, true, true), fine)
		}
		want := fault(api.FaultAccess, 0x400, api.InfoLength, true)
		same(t, fmt.Sprintf("Probe(%x, %d)", va, left+1), m.Probe(va, left+1, true, true), want)
		same(t, fmt.Sprintf("Probe(%x, 4096)", va), m.Probe(va, 4096, true, true), want)
	}
}

// P5.1: Load answers the bytes of pages that lie apart, or none; what it answers is new memory.
func TestLoad(t *testing.T) {
	r, m := fronted(open(20), open(8), open(14))
	var want []byte
	for _, frame := range []uint32{20, 8, 14} {
		b, _ := r.Bytes(frame*512, 512)
		want = append(want, b...)
	}
	for va := range uint32(1536) {
		for _, n := range []int{1, 3, 512, 600, 1536 - int(va), 1537 - int(va)} {
			b, f := m.Load(va, n, true)
			if int(va)+n <= 1536 {
				same(t, "fault", f, fine)
				if !slices.Equal(b, want[va:int(va)+n]) {
					t.Fatalf("Load(%x, %d)", va, n)
				}
			} else {
				same(t, "fault", f, fault(api.FaultAccess, 0x600, api.InfoLength, false))
				same(t, "no bytes", len(b), 0)
			}
		}
	}
	before := whole(r)
	b, _ := m.Load(0x1f0, 32, true)
	c, _ := m.Load(0x1f0, 32, true)
	clear(b[:cap(b)])
	if !slices.Equal(c, want[0x1f0:0x210]) || !slices.Equal(whole(r), before) {
		t.Fatal("what is written into an answer is seen")
	}
	m.Put(0x1f8, 0, 4, true)
	if !slices.Equal(c, want[0x1f0:0x210]) {
		t.Fatal("an answer is changed by a write")
	}
}

// P5.1: Store writes bytes, also into pages that lie apart; what is handed in isn't changed and isn't kept.
func TestStore(t *testing.T) {
	r, m := fronted(open(20), open(8), open(14))
	room := make([]byte, 600, 700)
	for i := range room[:700] {
		room[:700][i] = byte(i*11 + 5)
	}
	handed := slices.Clone(room[:700])
	want := whole(r)
	want[base+3] |= 4
	want[base+7] |= 4
	want[base+11] |= 4
	copy(want[20*512+0x1f0:], handed[:16])
	copy(want[8*512:], handed[16:528])
	copy(want[14*512:], handed[528:600])
	same(t, "Store", m.Store(0x1f0, true, room...), fine)
	same(t, "the memory", whole(r), want)
	same(t, "what was handed in", room[:700], handed)
	clear(room[:700])
	same(t, "the memory", whole(r), want)
}

// P5.1: numbers of each size, the lowest byte first, within a page and over its end.
func TestGetAndPut(t *testing.T) {
	const x = 0x89abcdef
	for size, bytes := range map[int]int{math.MinInt: 0, -5: 0, -1: 0, 0: 0, 1: 1, 2: 2, 3: 3, 4: 4, 5: 4, 8: 4, 4096: 4, math.MaxInt: 4} {
		for _, va := range []uint32{0x10, 0x1fc, 0x1fd, 0x1fe, 0x1ff, 0x200, 0x3fc} {
			r, m := fronted(open(20), open(8))
			before, _ := m.Load(0, 1024, true)
			same(t, "Put", m.Put(va, x, size, true), fine)
			for i, b := range []byte{0xef, 0xcd, 0xab, 0x89}[:bytes] {
				before[int(va)+i] = b
			}
			after, _ := m.Load(0, 1024, true)
			same(t, fmt.Sprintf("Put(%x, %d)", va, size), after, before)
			got, f := m.Get(va, size, true)
			same(t, "fault", f, fine)
			same(t, fmt.Sprintf("Get(%x, %d)", va, size), got, uint32(x&(1<<(8*bytes)-1)))
			same(t, "the table's length", len(whole(r)), 0x4000)
		}
	}
}

// P5.1: numbers whose last bytes aren't there: the fault, and beside it 0.
func TestGetAndPutFault(t *testing.T) {
	r, m := fronted(open(20), open(8))
	before := whole(r)
	for size := 1; size <= 6; size++ {
		bytes := uint32(min(size, 4))
		for va := 0x400 - bytes + 1; va < 0x404; va++ {
			at := max(va, 0x400)
			x, f := m.Get(va, size, true)
			same(t, "Get", x, 0)
			same(t, fmt.Sprintf("Get(%x, %d)", va, size), f, fault(api.FaultAccess, at, api.InfoLength, false))
			same(t, fmt.Sprintf("Put(%x, %d)", va, size), m.Put(va, 0, size, true), fault(api.FaultAccess, at, api.InfoLength, true))
		}
	}
	same(t, "the memory", whole(r), before)
}

// P5.1: Peek answers as a read of one byte does, of entries that are buffered and that aren't, and buffers nothing.
func TestPeek(t *testing.T) {
	entries := []uint32{open(8), 0x90000009, 0x8800000a, 0x80000008, 0x18000008, 0, open(99), open(31) + modified}
	for va := uint32(0); va < 9*512; va += 73 {
		for _, user := range []bool{false, true} {
			r, m := fronted(entries...)
			before := whole(r)
			c, f := m.Peek(va, user)
			buffered(t, m)
			x, g := m.Get(va, 1, user)
			same(t, fmt.Sprintf("Peek(%x)", va), c, byte(x))
			same(t, fmt.Sprintf("Peek(%x)", va), f, g)
			list := m.Buffered()
			put(r, base, make([]uint32, len(entries))...)
			c, f = m.Peek(va, user)
			x, g = m.Get(va, 1, user)
			same(t, fmt.Sprintf("Peek(%x), buffered", va), c, byte(x))
			same(t, fmt.Sprintf("Peek(%x), buffered", va), f, g)
			buffered(t, m, list...)
			put(r, base, entries...)
			same(t, "the memory", whole(r), before)
		}
	}
}

// P5.1: a nil one has no bytes: every access is FaultBus, without Info, also a write, and one of no bytes.
func TestNilMmu(t *testing.T) {
	var m *mmu.Mmu
	m.Set(odd)
	m.Clear()
	m.Drop(5)
	same(t, "Tables", m.Tables(), api.Tables{})
	same(t, "Buffered", len(m.Buffered()), 0)
	for _, va := range []uint32{0, 5, 0x200, 0x40000000, 0x80000000, 0xffffffff} {
		want := api.Fault{Kind: api.FaultBus, Va: va}
		for _, n := range []int{-1, 0, 1, 2, 4, 600, 4096} {
			same(t, "Probe", m.Probe(va, n, true, false), want)
			same(t, "Probe", m.Probe(va, n, false, true), want)
			b, f := m.Load(va, n, true)
			same(t, "Load", len(b), 0)
			same(t, "Load", f, want)
			same(t, "Store", m.Store(va, false, make([]byte, max(n, 0))...), want)
			x, f := m.Get(va, n, false)
			same(t, "Get", x, 0)
			same(t, "Get", f, want)
			same(t, "Put", m.Put(va, 7, n, true), want)
		}
		c, f := m.Peek(va, true)
		same(t, "Peek", c, 0)
		same(t, "Peek", f, want)
	}
}

// P5.1: of more bytes than are promised the calls end.
func TestVeryMany(t *testing.T) {
	_, m := straight(3)
	for _, tables := range []api.Tables{{}, m.Tables(), {P0BR: 0, P0LR: 0xffffffff, SBR: 0, SLR: 0xffffffff, MAPEN: 1}} {
		m.Set(tables)
		for _, va := range []uint32{0, 0x7fffffff, 0x80000000, 0xffffffff} {
			m.Probe(va, math.MaxInt, false, true)
			m.Load(va, math.MaxInt, false)
			m.Load(va, 4097, true)
		}
		m.Store(0, true, make([]byte, 10000)...)
	}
}
