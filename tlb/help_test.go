package tlb_test

import (
	"math"
	"slices"
	"testing"

	"camshaft/tlb"
)

// model keeps of each page its entry and the number of the Put by which it came to stand; the order is found by sorting, so that it shares no way of keeping it with the package.
type model struct {
	entries map[uint32]uint32
	came    map[uint32]int
	count   int
}

func newModel() *model {
	return &model{entries: map[uint32]uint32{}, came: map[uint32]int{}}
}

func (m *model) pages() []uint32 {
	var list []uint32
	for page := range m.came {
		list = append(list, page)
	}
	slices.SortFunc(list, func(a, b uint32) int { return m.came[a] - m.came[b] })
	return list
}

func (m *model) put(page, entry uint32) {
	m.count++
	if _, is := m.came[page]; !is {
		if len(m.came) == 8 {
			m.drop(m.pages()[0])
		}
		m.came[page] = m.count
	}
	m.entries[page] = entry
}

func (m *model) drop(page uint32) {
	delete(m.came, page)
	delete(m.entries, page)
}

func (m *model) clear() {
	clear(m.came)
	clear(m.entries)
}

// pair is a buffer, and the model that it is held against.
type pair struct {
	b *tlb.Tlb
	m *model
}

func newPair() pair { return pair{tlb.New(), newModel()} }

func (p pair) put(page, entry uint32) {
	p.b.Put(page, entry)
	p.m.put(page, entry)
}

func (p pair) drop(page uint32) {
	p.b.Drop(page)
	p.m.drop(page)
}

func (p pair) clear() {
	p.b.Clear()
	p.m.clear()
}

// same: the buffer has the model's pages in their order, their entries, and none of these others.
func (p pair) same(t *testing.T, when string, others ...uint32) {
	t.Helper()
	want := p.m.pages()
	if got := p.b.Pages(); !slices.Equal(got, want) {
		t.Fatalf("%s: Pages %x, want %x", when, got, want)
	}
	for _, page := range append(want, others...) {
		x, is := p.b.Get(page)
		if entry, stands := p.m.entries[page]; x != entry || is != stands {
			t.Fatalf("%s: Get(%x): %x, %v, want %x, %v", when, page, x, is, entry, stands)
		}
	}
}

// edges: page numbers and entries at the ends of their kinds, and such as share their lowest or highest bits.
var edges = []uint32{0, 1, 2, 0xff, 0x100, 0x10000, 0x1fffff, 0x200000, 0x400000, 0x7fffff, 0x800000, 0x7fffffff, 0x80000000, 0x80000001, math.MaxUint32 - 1, math.MaxUint32}

// filled: a buffer of the pages 1 to n, each with an entry of 100 times its number.
func filled(n uint32) *tlb.Tlb {
	b := tlb.New()
	for page := uint32(1); page <= n; page++ {
		b.Put(page, 100*page)
	}
	return b
}

// stand: these pages have entries, in this order.
func stand(t *testing.T, b *tlb.Tlb, want ...uint32) {
	t.Helper()
	if got := b.Pages(); !slices.Equal(got, want) {
		t.Fatalf("Pages: %x, want %x", got, want)
	}
}

// has: a page has this entry.
func has(t *testing.T, b *tlb.Tlb, page, entry uint32) {
	t.Helper()
	if x, is := b.Get(page); x != entry || !is {
		t.Fatalf("Get(%x): %x, %v, want %x, true", page, x, is, entry)
	}
}

// hasNone: a page has no entry, and 0 is answered beside that.
func hasNone(t *testing.T, b *tlb.Tlb, page uint32) {
	t.Helper()
	if x, is := b.Get(page); x != 0 || is {
		t.Fatalf("Get(%x): %x, %v, want 0, false", page, x, is)
	}
}
