package mmu_test

import (
	"fmt"
	"slices"
	"testing"

	"camshaft/api"
	"camshaft/mmu"
	"camshaft/ram"
)

// row is a page that the model has buffered.
type row struct{ page, entry uint32 }

// model is a plain translation: it goes address by address, takes an entry's parts by division, and finds a place for each byte of its own.
type model struct {
	mem  []byte
	t    api.Tables
	rows []row
}

// rights: by protection, what the kernel and the user may do.
var rights = [4]struct{ kernel, user string }{{"", ""}, {"rw", ""}, {"rw", "r"}, {"rw", "rw"}}

// may: whether an entry lets one read, or write.
func may(entry uint32, user, write bool) bool {
	of := rights[entry/0x8000000%4]
	what := of.kernel
	if user {
		what = of.user
	}
	return what == "rw" || what == "r" && !write
}

func (w *model) find(page uint32) int {
	return slices.IndexFunc(w.rows, func(r row) bool { return r.page == page })
}

// keep buffers an entry; the eldest one makes room.
func (w *model) keep(page, entry uint32) {
	w.rows = append(w.rows, row{page, entry})
	w.rows = w.rows[max(0, len(w.rows)-8):]
}

func (w *model) pages() []uint32 {
	var list []uint32
	for _, r := range w.rows {
		list = append(list, r.page)
	}
	return list
}

// entryPlace: where the entry of an address's page stands; -1: no table is so long; -2: its bytes aren't there.
func (w *model) entryPlace(va uint32) int {
	base, length := w.t.P0BR, w.t.P0LR
	if va >= 0x80000000 {
		base, length = w.t.SBR, w.t.SLR
	}
	page := va % 0x40000000 / 512
	if va/0x40000000%2 == 1 || page >= length {
		return -1
	}
	place := int((uint64(base) + 4*uint64(page)) % (1 << 32))
	if place+4 > len(w.mem) {
		return -2
	}
	return place
}

func (w *model) long(at int) uint32 {
	return uint32(w.mem[at]) + 256*(uint32(w.mem[at+1])+256*(uint32(w.mem[at+2])+256*uint32(w.mem[at+3])))
}

// fault is one with InfoWrite, if it is a write.
func fault(kind int, va, info uint32, write bool) api.Fault {
	if write {
		info += 4
	}
	return api.Fault{Kind: kind, Va: va, Info: info}
}

// page: where the first byte of n of one page lies; or the fault.
func (w *model) page(va uint32, n int, user, write, keep bool) (int, api.Fault) {
	first := int(va)
	if w.t.MAPEN != 0 {
		var entry uint32
		i := w.find(va / 512)
		if i >= 0 {
			entry = w.rows[i].entry
		} else if place := w.entryPlace(va); place == -1 {
			return 0, fault(2, va, 1, write)
		} else if place == -2 {
			return 0, fault(1, va, 0, write)
		} else {
			entry = w.long(place)
		}
		if !may(entry, user, write) {
			return 0, fault(2, va, 0, write)
		}
		if entry < 0x80000000 {
			return 0, fault(3, va, 0, write)
		}
		if i < 0 && keep {
			w.keep(va/512, entry)
		}
		first = int(entry%0x200000)*512 + int(va%512)
	}
	if first+n > len(w.mem) {
		return 0, fault(1, va, 0, write)
	}
	return first, api.Fault{}
}

// access: the places of n bytes, one by one; or the fault.
func (w *model) access(va uint32, n int, user, write, keep bool) ([]int, api.Fault) {
	var places []int
	for len(places) < n {
		here := va + uint32(len(places))
		count := min(n-len(places), 512-int(here%512))
		first, f := w.page(here, count, user, write, keep)
		if f.Kind != 0 {
			return nil, f
		}
		for i := range count {
			places = append(places, first+i)
		}
	}
	return places, api.Fault{}
}

func (w *model) load(va uint32, n int, user bool) ([]byte, api.Fault) {
	places, f := w.access(va, n, user, false, true)
	var b []byte
	for _, at := range places {
		b = append(b, w.mem[at])
	}
	return b, f
}

func (w *model) mark(va uint32) {
	if i := w.find(va / 512); i >= 0 {
		if w.rows[i].entry/0x4000000%2 == 1 {
			return
		}
		w.rows[i].entry += 0x4000000
	}
	if place := w.entryPlace(va); place >= 0 {
		w.mem[place+3] |= 4
	}
}

// store answers the places that it wrote to, too.
func (w *model) store(va uint32, user bool, b []byte) ([]int, api.Fault) {
	places, f := w.access(va, len(b), user, true, true)
	for i := range places {
		if here := va + uint32(i); w.t.MAPEN != 0 && (i == 0 || here%512 == 0) {
			w.mark(here)
		}
	}
	for i, at := range places {
		w.mem[at] = b[i]
	}
	return places, f
}

func (w *model) set(t api.Tables) {
	w.t = t
	w.rows = nil
}

func (w *model) drop(va uint32) {
	w.rows = slices.DeleteFunc(w.rows, func(r row) bool { return r.page == va/512 })
}

// memory: so many bytes, most of them other than their neighbours and those a page on.
func memory(size int) *ram.Ram {
	r := ram.New(size)
	for i := range size {
		r.Put(uint32(i), uint32(i*7+i/512*3+1), 1)
	}
	return r
}

// whole: all bytes of a memory.
func whole(r *ram.Ram) []byte {
	b, _ := r.Bytes(0, r.Size())
	return b
}

// put lays entries into a memory, one behind the other.
func put(r *ram.Ram, at uint32, entries ...uint32) {
	for i, x := range entries {
		r.Put(at+uint32(4*i), x, 4)
	}
}

// long: the entry at a place.
func long(r *ram.Ram, at uint32) uint32 {
	x, _ := r.Get(at, 4)
	return x
}

// open: an entry of a page that is there, for all, in a frame.
func open(frame uint32) uint32 { return 0x98000000 + frame }

const modified = 0x4000000

// base: where most tests' table for addresses from 0 on stands; it has room for the entries of 32 pages, and the table for addresses from 80000000 on is behind it.
const base, sbase = 0x200, 0x280

// fronted: a memory of 16 KiB with these entries for the pages from 0 on, and none for others.
func fronted(entries ...uint32) (*ram.Ram, *mmu.Mmu) {
	r := memory(0x4000)
	put(r, base, entries...)
	m := mmu.New(r)
	m.Set(api.Tables{P0BR: base, P0LR: uint32(len(entries)), MAPEN: 1})
	return r, m
}

// straight: n pages that lie, from frame 8 on, one behind the other.
func straight(n uint32) (*ram.Ram, *mmu.Mmu) {
	var entries []uint32
	for i := range n {
		entries = append(entries, open(8+i))
	}
	return fronted(entries...)
}

var fine = api.Fault{}

func same(t *testing.T, what string, got, want any) {
	t.Helper()
	if g, w := fmt.Sprintf("%x", got), fmt.Sprintf("%x", want); g != w {
		t.Fatalf("%s: %s, want %s", what, g, w)
	}
}

// buffered: these pages are, in this order.
func buffered(t *testing.T, m *mmu.Mmu, want ...uint32) {
	t.Helper()
	if got := m.Buffered(); !slices.Equal(got, want) {
		t.Fatalf("Buffered: %x, want %x", got, want)
	}
}

// tables that are good for nothing but to be told from one another.
var odd = api.Tables{P0BR: 1, P0LR: 0xffffffff, SBR: 3, SLR: 0x80000000, MAPEN: 5}
