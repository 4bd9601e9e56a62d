package uword_test

import (
	"math"
	"testing"

	"camshaft/api"
	"camshaft/uword"
)

// P14.1: the twelve fields in their order.
func TestFields(t *testing.T) {
	want := []uword.Field{{"alu", 5}, {"a", 6}, {"b", 6}, {"d", 6}, {"lit", 8}, {"size", 2}, {"cc", 2}, {"mem", 4}, {"seq", 3}, {"cond", 5}, {"to", 11}, {"misc", 6}}
	got := uword.Fields()
	if len(got) != 12 {
		t.Fatalf("%d fields", len(got))
	}
	sum := 0
	for i, f := range got {
		if f != want[i] {
			t.Errorf("field %d: %v, want %v", i, f, want[i])
		}
		sum += f.Bits
	}
	if sum != 64 {
		t.Errorf("%d bits", sum)
	}
}

// P14.1, rule 3: what a caller does with an answer plays no part at the next call.
func TestFieldsAreNew(t *testing.T) {
	first, second := uword.Fields(), uword.Fields()
	for i := range first {
		first[i] = uword.Field{Name: "spoilt", Bits: 1}
	}
	_ = append(first[:0], uword.Field{Name: "more", Bits: 64})
	third := uword.Fields()
	for i, f := range rows() {
		want := uword.Field{Name: f.name, Bits: f.bits}
		if second[i] != want || third[i] != want {
			t.Errorf("field %d: %v, %v, want %v", i, second[i], third[i], want)
		}
		if uword.Bits(f.name) != f.bits {
			t.Errorf("Bits(%q): %d", f.name, uword.Bits(f.name))
		}
	}
	if uword.Bits("spoilt") != 0 || uword.Bits("more") != 0 {
		t.Error("a caller's field is there")
	}
	packs(t, mixed(), model(mixed()))
}

// P14.1: how many bits the field of a name has; none, if there is no such field.
func TestBits(t *testing.T) {
	for _, f := range rows() {
		if n := uword.Bits(f.name); n != f.bits {
			t.Errorf("Bits(%q): %d, want %d", f.name, n, f.bits)
		}
	}
	for _, name := range noNames {
		if n := uword.Bits(name); n != 0 {
			t.Errorf("Bits(%q): %d", name, n)
		}
	}
}

// P14.1: Get answers the part of that name, whatever it is.
func TestGet(t *testing.T) {
	want := map[string][2]int{
		"alu": {30, 32}, "a": {62, -1}, "b": {61, math.MinInt}, "d": {33, math.MaxInt}, "lit": {254, 256}, "size": {2, 4},
		"cc": {1, -2}, "mem": {13, 16}, "seq": {6, 8}, "cond": {29, 1 << 40}, "to": {2046, 2048}, "misc": {59, -3},
	}
	for name, parts := range want {
		if x := uword.Get(mixed(), name); x != parts[0] {
			t.Errorf("Get(mixed, %q): %d, want %d", name, x, parts[0])
		}
		if x := uword.Get(wild(), name); x != parts[1] {
			t.Errorf("Get(wild, %q): %d, want %d", name, x, parts[1])
		}
		if x := uword.Get(api.Word{}, name); x != 0 {
			t.Errorf("Get of nothing, %q: %d", name, x)
		}
	}
	for _, name := range noNames {
		for _, w := range []api.Word{{}, mixed(), wild()} {
			if x := uword.Get(w, name); x != 0 {
				t.Errorf("Get(%+v, %q): %d", w, name, x)
			}
		}
	}
}

// P14.1: Set puts what fits, and leaves all other parts as they were, also such as don't fit.
func TestSet(t *testing.T) {
	for _, f := range rows() {
		for _, w := range []api.Word{{}, mixed(), wild()} {
			for _, x := range []int{0, 1, 2, f.most - 1, f.most} {
				want := w
				*f.part(&want) = x
				sets(t, w, f.name, x, want, api.OK)
			}
		}
	}
	sets(t, mixed(), "to", 5, api.Word{Alu: 30, A: 62, B: 61, D: 33, Lit: 254, Size: 2, CC: 1, Mem: 13, Seq: 6, Cond: 29, To: 5, Misc: 59}, api.OK)
	sets(t, wild(), "alu", 31, api.Word{Alu: 31, A: -1, B: math.MinInt, D: math.MaxInt, Lit: 256, Size: 4, CC: -2, Mem: 16, Seq: 8, Cond: 1 << 40, To: 2048, Misc: -3}, api.OK)
}

// P14.1: what doesn't fit is refused, and the word is answered as it was given.
func TestSetRefuses(t *testing.T) {
	for _, f := range rows() {
		for _, w := range []api.Word{{}, mixed(), wild()} {
			for _, x := range append([]int{f.most + 1, f.most + 2, 2*f.most + 1, 2*f.most + 2}, unfit...) {
				sets(t, w, f.name, x, w, api.ErrArg)
			}
		}
	}
}

// P14.1: where there is no such field, that is told, whether the number would fit or not.
func TestSetOfNone(t *testing.T) {
	for _, name := range noNames {
		for _, w := range []api.Word{{}, mixed(), wild()} {
			for _, x := range append([]int{0, 1, 3, 2047}, unfit...) {
				sets(t, w, name, x, w, api.ErrNone)
			}
		}
	}
}

// P14.1: each part, all others within; at both ends it can be, and beyond them it can't.
func TestOnePart(t *testing.T) {
	for _, f := range rows() {
		for _, w := range []api.Word{{}, mixed()} {
			for _, x := range []int{0, f.most} {
				*f.part(&w) = x
				packs(t, w, model(w))
			}
			for _, x := range append([]int{f.most + 1, f.most + 2, 2*f.most + 1, 2*f.most + 2}, unfit...) {
				*f.part(&w) = x
				refused(t, w)
			}
		}
	}
}

// P14.1: several parts that don't fit at once, all bits of their sum within.
func TestSeveralParts(t *testing.T) {
	refused(t, wild())
	list := rows()
	for i, f := range list {
		for _, g := range list[:i] {
			w := mixed()
			*f.part(&w), *g.part(&w) = -1, -1
			refused(t, w)
			*f.part(&w), *g.part(&w) = f.most+1, -f.most-1
			refused(t, w)
			*f.part(&w), *g.part(&w) = math.MinInt, math.MinInt
			refused(t, w)
		}
	}
}

// P14.1: numbers by hand: the chapter's example, a bit of each field, all bits of each.
func TestPack(t *testing.T) {
	packs(t, api.Word{}, 0)
	packs(t, api.Word{Alu: 1, A: 2}, 65)
	packs(t, api.Word{Alu: 31, A: 63, B: 63, D: 63, Lit: 255, Size: 3, CC: 3, Mem: 15, Seq: 7, Cond: 31, To: 2047, Misc: 63}, math.MaxUint64)
	for _, r := range fieldNumbers() {
		packs(t, r.one, r.bit)
		packs(t, r.all, r.bits)
	}
}

// P14.1: the same the other way round.
func TestUnpack(t *testing.T) {
	if w := uword.Unpack(0); w != (api.Word{}) {
		t.Errorf("Unpack(0): %+v", w)
	}
	if w := uword.Unpack(65); w != (api.Word{Alu: 1, A: 2}) {
		t.Errorf("Unpack(65): %+v", w)
	}
	all := api.Word{Alu: 31, A: 63, B: 63, D: 63, Lit: 255, Size: 3, CC: 3, Mem: 15, Seq: 7, Cond: 31, To: 2047, Misc: 63}
	if w := uword.Unpack(math.MaxUint64); w != all {
		t.Errorf("Unpack of all bits: %+v", w)
	}
	for _, r := range fieldNumbers() {
		if w := uword.Unpack(r.bit); w != r.one {
			t.Errorf("Unpack(%x): %+v, want %+v", r.bit, w, r.one)
		}
		if w := uword.Unpack(r.bits); w != r.all {
			t.Errorf("Unpack(%x): %+v, want %+v", r.bits, w, r.all)
		}
	}
}

// fieldNumber is a field's lowest bit and all its bits, as words and as numbers.
type fieldNumber struct {
	one, all  api.Word
	bit, bits uint64
}

func fieldNumbers() []fieldNumber {
	return []fieldNumber{
		{api.Word{Alu: 1}, api.Word{Alu: 31}, 1, 0x1f},
		{api.Word{A: 1}, api.Word{A: 63}, 0x20, 0x7e0},
		{api.Word{B: 1}, api.Word{B: 63}, 0x800, 0x1f800},
		{api.Word{D: 1}, api.Word{D: 63}, 0x20000, 0x7e0000},
		{api.Word{Lit: 1}, api.Word{Lit: 255}, 0x800000, 0x7f800000},
		{api.Word{Size: 1}, api.Word{Size: 3}, 0x80000000, 0x180000000},
		{api.Word{CC: 1}, api.Word{CC: 3}, 0x200000000, 0x600000000},
		{api.Word{Mem: 1}, api.Word{Mem: 15}, 0x800000000, 0x7800000000},
		{api.Word{Seq: 1}, api.Word{Seq: 7}, 0x8000000000, 0x38000000000},
		{api.Word{Cond: 1}, api.Word{Cond: 31}, 0x40000000000, 0x7c0000000000},
		{api.Word{To: 1}, api.Word{To: 2047}, 0x800000000000, 0x3ff800000000000},
		{api.Word{Misc: 1}, api.Word{Misc: 63}, 0x400000000000000, 0xfc00000000000000},
	}
}
