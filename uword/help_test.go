package uword_test

import (
	"math"
	"math/rand"
	"testing"

	"camshaft/api"
	"camshaft/uword"
)

// row is a field as it is written out: where its lowest bit lies, the greatest number that fits, and which part of a word it is.
type row struct {
	name string
	bits int
	low  int
	most int
	part func(*api.Word) *int
}

// rows: the fields in their order.
func rows() []row {
	return []row{
		{"alu", 5, 0, 31, func(w *api.Word) *int { return &w.Alu }},
		{"a", 6, 5, 63, func(w *api.Word) *int { return &w.A }},
		{"b", 6, 11, 63, func(w *api.Word) *int { return &w.B }},
		{"d", 6, 17, 63, func(w *api.Word) *int { return &w.D }},
		{"lit", 8, 23, 255, func(w *api.Word) *int { return &w.Lit }},
		{"size", 2, 31, 3, func(w *api.Word) *int { return &w.Size }},
		{"cc", 2, 33, 3, func(w *api.Word) *int { return &w.CC }},
		{"mem", 4, 35, 15, func(w *api.Word) *int { return &w.Mem }},
		{"seq", 3, 39, 7, func(w *api.Word) *int { return &w.Seq }},
		{"cond", 5, 42, 31, func(w *api.Word) *int { return &w.Cond }},
		{"to", 11, 47, 2047, func(w *api.Word) *int { return &w.To }},
		{"misc", 6, 58, 63, func(w *api.Word) *int { return &w.Misc }},
	}
}

// noNames: what is no field's name.
var noNames = []string{
	"", " ", "what", "\x00",
	"ALU", "A", "B", "D", "LIT", "SIZE", "CC", "MEM", "SEQ", "COND", "TO", "MISC",
	"Alu", "Lit", "Size", "Cc", "cC", "Mem", "Seq", "Cond", "To", "tO", "Misc",
	" alu", "alu ", "alu\n", "\talu", "alu\x00", "alus", "al", "lu", "a ", " a", "aa", "ab", "b\x00", "bb", "dd", "c", "e",
	"li", "lits", "siz", "sizes", "ccc", "me", "mems", "se", "seqs", "con", "cond ", "conds", "t", "too", "mis", "miscs",
	"a,b", "alu a", "aluabdlitsizeccmemseqcondtomisc", "Name", "Bits", "0", "5", "á", "ａ", "\xff",
}

// unfit: numbers that fit into no field.
var unfit = []int{-1, -2, -31, -32, -63, -64, -255, -2047, -2048, 2048, 2049, 4095, 1 << 16, math.MaxInt32, math.MinInt32, 1 << 32, 1<<32 + 1, -1 << 32, 1 << 62, 1<<63 - 2048, math.MaxInt - 1, math.MaxInt, math.MinInt, math.MinInt + 1, math.MinInt + 31}

// mixed: a word that can be, all of whose parts are different.
func mixed() api.Word {
	return api.Word{Alu: 30, A: 62, B: 61, D: 33, Lit: 254, Size: 2, CC: 1, Mem: 13, Seq: 6, Cond: 29, To: 2046, Misc: 59}
}

// wild: a word that can't be, all of whose parts are different, and none of which fits.
func wild() api.Word {
	return api.Word{Alu: 32, A: -1, B: math.MinInt, D: math.MaxInt, Lit: 256, Size: 4, CC: -2, Mem: 16, Seq: 8, Cond: 1 << 40, To: 2048, Misc: -3}
}

// drawnGood: a word that can be.
func drawnGood(r *rand.Rand) api.Word {
	var w api.Word
	for _, f := range rows() {
		*f.part(&w) = drawnFit(r, f)
	}
	return w
}

// drawnFit: a number that fits, oftener than others an end.
func drawnFit(r *rand.Rand, f row) int {
	switch r.Intn(4) {
	case 0:
		return 0
	case 1:
		return f.most
	}
	return r.Intn(f.most + 1)
}

// drawnAny: a word, some of whose parts may not fit.
func drawnAny(r *rand.Rand) api.Word {
	w := drawnGood(r)
	for _, f := range rows() {
		switch r.Intn(24) {
		case 0:
			*f.part(&w) = unfit[r.Intn(len(unfit))]
		case 1:
			*f.part(&w) = f.most + 1 + r.Intn(3)
		case 2:
			*f.part(&w) = -1 - r.Intn(f.most+1)
		}
	}
	return w
}

// drawnNumber: 64 bits, some of them few, some of them many.
func drawnNumber(r *rand.Rand) uint64 {
	x := r.Uint64()
	switch r.Intn(4) {
	case 0:
		return x & r.Uint64() & r.Uint64()
	case 1:
		return x | r.Uint64() | r.Uint64()
	}
	return x
}

// packs fails unless a word is that number.
func packs(t *testing.T, w api.Word, want uint64) {
	t.Helper()
	if x, e := uword.Pack(w); x != want || e != api.OK {
		t.Errorf("Pack(%+v): %x, %d, want %x", w, x, e, want)
	}
	if !uword.Good(w) {
		t.Errorf("Good(%+v): false", w)
	}
}

// refused fails unless a word can't be.
func refused(t *testing.T, w api.Word) {
	t.Helper()
	if x, e := uword.Pack(w); x != 0 || e != api.ErrArg {
		t.Errorf("Pack(%+v): %x, %d, want ErrArg", w, x, e)
	}
	if uword.Good(w) {
		t.Errorf("Good(%+v): true", w)
	}
}

// sets fails unless Set answers that word and that error.
func sets(t *testing.T, w api.Word, name string, x int, want api.Word, wantE api.Errno) {
	t.Helper()
	if y, e := uword.Set(w, name, x); y != want || e != wantE {
		t.Errorf("Set(%+v, %q, %d): %+v, %d, want %+v, %d", w, name, x, y, e, want, wantE)
	}
}
