package tlb_test

import (
	"math"
	"testing"

	"camshaft/api"
	"camshaft/tlb"
)

// P4.1, by hand: orders of pages that are written out here.

func TestNew(t *testing.T) {
	b := tlb.New()
	if b == nil {
		t.Fatal("New: nil")
	}
	stand(t, b)
	for _, page := range edges {
		hasNone(t, b, page)
	}
	b.Drop(0)
	b.Clear()
	stand(t, b)
	b.Put(5, 6)
	stand(t, b, 5)
	has(t, b, 5, 6)
	stand(t, tlb.New())
}

func TestExample(t *testing.T) {
	if api.TlbSize != 8 {
		t.Fatal(api.TlbSize)
	}
	b := filled(9)
	stand(t, b, 2, 3, 4, 5, 6, 7, 8, 9)
	hasNone(t, b, 1)
	for page := uint32(2); page <= 9; page++ {
		has(t, b, page, 100*page)
	}
}

func TestGet(t *testing.T) {
	b := filled(8)
	has(t, b, 1, 100)
	has(t, b, 8, 800)
	hasNone(t, b, 0)
	hasNone(t, b, 9)
	hasNone(t, b, math.MaxUint32)
	b.Drop(4)
	hasNone(t, b, 4)
	b.Put(9, 900)
	b.Put(10, 1000)
	hasNone(t, b, 1)
	has(t, b, 2, 200)
	stand(t, b, 2, 3, 5, 6, 7, 8, 9, 10)
}

// Get moves no page: the first one goes, though it was got last.
func TestGetMovesNothing(t *testing.T) {
	b := filled(8)
	has(t, b, 1, 100)
	stand(t, b, 1, 2, 3, 4, 5, 6, 7, 8)
	b.Put(9, 900)
	hasNone(t, b, 1)
	stand(t, b, 2, 3, 4, 5, 6, 7, 8, 9)
}

// Page 0 and entry 0 are like others.
func TestNoughts(t *testing.T) {
	b := tlb.New()
	b.Put(0, 0)
	stand(t, b, 0)
	has(t, b, 0, 0)
	hasNone(t, b, math.MaxUint32)
	b.Put(math.MaxUint32, 0)
	b.Put(7, math.MaxUint32)
	stand(t, b, 0, math.MaxUint32, 7)
	has(t, b, math.MaxUint32, 0)
	has(t, b, 7, math.MaxUint32)
	b.Put(7, 0)
	has(t, b, 7, 0)
	b.Put(0, 3)
	has(t, b, 0, 3)
	b.Drop(0)
	hasNone(t, b, 0)
	stand(t, b, math.MaxUint32, 7)
	b.Drop(math.MaxUint32)
	hasNone(t, b, math.MaxUint32)
	stand(t, b, 7)
}

// Put of a page that has an entry: it stands where it stood, and no other one goes, however many there are.
func TestPutAgain(t *testing.T) {
	for n := uint32(1); n <= 8; n++ {
		for page := uint32(1); page <= n; page++ {
			b := filled(n)
			for _, entry := range edges {
				b.Put(page, entry)
				has(t, b, page, entry)
			}
			stand(t, b, []uint32{1, 2, 3, 4, 5, 6, 7, 8}[:n]...)
			for other := uint32(1); other <= n; other++ {
				if other != page {
					has(t, b, other, 100*other)
				}
			}
		}
	}
}

// A page that is put again keeps its place, so that, as the first one, it goes when a new one comes.
func TestPutAgainGoesByItsPlace(t *testing.T) {
	b := filled(8)
	b.Put(1, 5)
	b.Put(3, 6)
	b.Put(9, 7)
	stand(t, b, 2, 3, 4, 5, 6, 7, 8, 9)
	hasNone(t, b, 1)
	has(t, b, 3, 6)
	b.Put(1, 8)
	stand(t, b, 3, 4, 5, 6, 7, 8, 9, 1)
	has(t, b, 1, 8)
}

func TestPutNew(t *testing.T) {
	b := tlb.New()
	want := []uint32{9, 4, 7, 1, 8, 3, 2, 6}
	for i, page := range want {
		b.Put(page, page)
		stand(t, b, want[:i+1]...)
	}
	b.Put(5, 5)
	stand(t, b, 4, 7, 1, 8, 3, 2, 6, 5)
	b.Put(9, 9)
	stand(t, b, 7, 1, 8, 3, 2, 6, 5, 9)
}

func TestDrop(t *testing.T) {
	for _, c := range []struct {
		n, page uint32
		want    []uint32
	}{
		{0, 1, nil},
		{1, 1, nil},
		{1, 2, []uint32{1}},
		{2, 1, []uint32{2}},
		{2, 2, []uint32{1}},
		{5, 1, []uint32{2, 3, 4, 5}},
		{5, 3, []uint32{1, 2, 4, 5}},
		{5, 5, []uint32{1, 2, 3, 4}},
		{5, 0, []uint32{1, 2, 3, 4, 5}},
		{8, 1, []uint32{2, 3, 4, 5, 6, 7, 8}},
		{8, 4, []uint32{1, 2, 3, 5, 6, 7, 8}},
		{8, 8, []uint32{1, 2, 3, 4, 5, 6, 7}},
		{8, 9, []uint32{1, 2, 3, 4, 5, 6, 7, 8}},
		{9, 1, []uint32{2, 3, 4, 5, 6, 7, 8, 9}},
	} {
		b := filled(c.n)
		for range 2 {
			b.Drop(c.page)
			stand(t, b, c.want...)
			hasNone(t, b, c.page)
			for _, page := range c.want {
				has(t, b, page, 100*page)
			}
		}
		if len(c.want) < 8 {
			b.Put(c.page, 1)
			stand(t, b, append(c.want, c.page)...)
			has(t, b, c.page, 1)
		}
	}
}

func TestClear(t *testing.T) {
	for _, n := range []uint32{0, 1, 2, 5, 8, 9} {
		b := filled(n)
		for range 2 {
			b.Clear()
			stand(t, b)
			for page := range uint32(11) {
				hasNone(t, b, page)
			}
			b.Drop(1)
		}
		for page := uint32(1); page <= 8; page++ {
			b.Put(page, page)
		}
		stand(t, b, 1, 2, 3, 4, 5, 6, 7, 8)
		has(t, b, 1, 1)
		b.Put(9, 9)
		stand(t, b, 2, 3, 4, 5, 6, 7, 8, 9)
	}
}

func TestNil(t *testing.T) {
	var b *tlb.Tlb
	for range 2 {
		stand(t, b)
		for _, page := range edges {
			hasNone(t, b, page)
			b.Put(page, 1)
			hasNone(t, b, page)
			b.Drop(page)
		}
		b.Clear()
	}
}
