package uword_test

import (
	"math/rand"
	"testing"

	"camshaft/api"
	"camshaft/uword"
)

// can: whether each part is from 0 to the greatest that fits.
func can(w api.Word) bool {
	for _, f := range rows() {
		if x := *f.part(&w); x < 0 || x > f.most {
			return false
		}
	}
	return true
}

// model: a word as a number, each part times what its field's lowest bit stands for.
func model(w api.Word) uint64 {
	var x, worth uint64 = 0, 1
	for _, f := range rows() {
		x += uint64(*f.part(&w)) * worth
		worth *= uint64(f.most) + 1
	}
	return x
}

// taken: the word that a number is, bit by bit.
func taken(x uint64) api.Word {
	var w api.Word
	for _, f := range rows() {
		for bit := range f.bits {
			if x&(1<<(f.low+bit)) != 0 {
				*f.part(&w) += 1 << bit
			}
		}
	}
	return w
}

// P14.1: Good and Pack, of drawn words, some of which can't be.
func TestPackIsTheModel(t *testing.T) {
	r := rand.New(rand.NewSource(14))
	goods, bads := 0, 0
	for range 50000 {
		w := drawnAny(r)
		if can(w) {
			goods++
			packs(t, w, model(w))
		} else {
			bads++
			refused(t, w)
		}
		if t.Failed() {
			return
		}
	}
	if goods < 1000 || bads < 1000 {
		t.Errorf("%d can be, %d can't", goods, bads)
	}
}

// P14.1: Unpack, of each bit alone, of all but one, of rows of bits, of drawn numbers.
func TestUnpackIsTheModel(t *testing.T) {
	r := rand.New(rand.NewSource(141))
	var list []uint64
	for low := range 64 {
		list = append(list, 1<<low, ^(uint64(1) << low))
		for high := low; high < 64; high++ {
			list = append(list, 1<<high-1<<low, ^uint64(0)<<low>>(63-high))
		}
	}
	for range 50000 {
		list = append(list, drawnNumber(r))
	}
	for _, x := range list {
		if w := uword.Unpack(x); w != taken(x) {
			t.Fatalf("Unpack(%x): %+v, want %+v", x, w, taken(x))
		}
	}
}

// P14.1: Get and Set, of drawn words, names and numbers.
func TestSetIsTheModel(t *testing.T) {
	r := rand.New(rand.NewSource(142))
	for range 50000 {
		w := drawnAny(r)
		f := rows()[r.Intn(12)]
		x := *f.part(new(drawnAny(r)))
		want, e := w, api.ErrArg
		if x >= 0 && x <= f.most {
			*f.part(&want), e = x, api.OK
		}
		sets(t, w, f.name, x, want, e)
		if got := uword.Get(w, f.name); got != *f.part(&w) {
			t.Errorf("Get(%+v, %q): %d", w, f.name, got)
		}
		if t.Failed() {
			return
		}
	}
}
