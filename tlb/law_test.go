package tlb_test

import (
	"slices"
	"testing"

	"camshaft/api"
	"camshaft/tlb"
)

// P4.2: what was put last of a page is got behind fewer than TlbSize others, and not behind TlbSize that had no entries, however many pages stood ahead of it.
func TestPutIsGot(t *testing.T) {
	const own = 77
	for ahead := range uint32(api.TlbSize + 3) {
		for _, entry := range edges {
			b := filled(ahead)
			b.Put(own, entry)
			for others := range uint32(api.TlbSize) {
				has(t, b, own, entry)
				b.Put(1000+others, others)
			}
			hasNone(t, b, own)
		}
	}
}

// P4.2: of several entries put of a page, the last one is got.
func TestLastPutIsGot(t *testing.T) {
	b := tlb.New()
	for i, entry := range edges {
		b.Put(77, entry)
		has(t, b, 77, entry)
		if i < api.TlbSize-1 {
			b.Put(uint32(i), 5)
		}
	}
	stand(t, b, 77, 0, 1, 2, 3, 4, 5, 6)
	has(t, b, 77, edges[len(edges)-1])
}

// P4.2: pages that have entries make none go, however often they are put.
func TestPutAgainMakesNoneGo(t *testing.T) {
	for n := uint32(1); n <= api.TlbSize; n++ {
		b := filled(n)
		for i := range uint32(100) {
			b.Put(1+i%n, i)
		}
		for i := 100 - n; i < 100; i++ {
			has(t, b, 1+i%n, i)
		}
		if len(b.Pages()) != int(n) {
			t.Fatalf("%d pages: %x", n, b.Pages())
		}
	}
}

// P4.2: a page that was dropped isn't got, whatever is put of others behind that; put again, it is.
func TestDroppedIsNotGot(t *testing.T) {
	for ahead := range uint32(api.TlbSize) {
		b := filled(ahead)
		b.Put(77, 5)
		b.Drop(77)
		for others := range uint32(api.TlbSize + 2) {
			hasNone(t, b, 77)
			b.Put(1000+others, 6)
		}
		b.Put(77, 7)
		has(t, b, 77, 7)
		b.Clear()
		hasNone(t, b, 77)
	}
}

// P4.2: where others were dropped, there is room for as many more before the page goes.
func TestDroppedMakeRoom(t *testing.T) {
	for dropped := range uint32(api.TlbSize) {
		b := filled(api.TlbSize)
		for page := uint32(2); page < 2+dropped; page++ {
			b.Drop(page)
		}
		for others := range dropped {
			b.Put(1000+others, 6)
			has(t, b, 1, 100)
		}
		b.Put(2000, 6)
		hasNone(t, b, 1)
	}
}

// P4.1: what Pages answers is new memory: neither the buffer nor another answer sees what is written there, nor in the room behind it; and it doesn't see what is done later.
func TestPagesAreNew(t *testing.T) {
	for n := range uint32(api.TlbSize + 1) {
		b := filled(n)
		want := []uint32{1, 2, 3, 4, 5, 6, 7, 8}[:n]
		one, two := b.Pages(), b.Pages()
		clear(one[:cap(one)])
		_ = append(one, 9, 9)
		stand(t, b, want...)
		for _, page := range want {
			has(t, b, page, 100*page)
		}
		if !slices.Equal(two, want) {
			t.Fatalf("another answer is %x", two)
		}
		b.Drop(1)
		for page := range uint32(api.TlbSize) {
			b.Put(50+page, 0)
		}
		b.Clear()
		if !slices.Equal(two, want) {
			t.Fatalf("behind other calls it is %x", two)
		}
	}
}

// P4.1: two buffers know nothing of one another, whichever was made first.
func TestTwoBuffers(t *testing.T) {
	a, b := filled(8), filled(8)
	a.Put(1, 5)
	a.Drop(2)
	a.Put(9, 6)
	stand(t, b, 1, 2, 3, 4, 5, 6, 7, 8)
	has(t, b, 1, 100)
	hasNone(t, b, 9)
	b.Clear()
	stand(t, a, 1, 3, 4, 5, 6, 7, 8, 9)
	has(t, a, 1, 5)
	stand(t, tlb.New())
}
