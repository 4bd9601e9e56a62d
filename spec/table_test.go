package spec_test

import (
	"math"
	"testing"

	"camshaft/api"
	"camshaft/spec"
)

// P11.1, by hand: what is written out here.

// The chapter's example, and that of layer 12: MOVL #5, -(SP) is D0, 05, 7E.
func TestExample(t *testing.T) {
	o := api.Operand{Access: 'r', Size: 4}
	near := api.Spec{Kind: api.SpecNear, Reg: 5, Index: 2, Value: math.MaxUint32 - 1, Bytes: 3}
	sameDecode(t, raw("42 a5 fe"), o, is(near))
	sameEncode(t, near, o, written{raw("42 a5 fe"), api.OK})
	sameEncode(t, api.Spec{Kind: api.SpecLiteral, Index: -1, Value: 5}, o, written{raw("05"), api.OK})
	sameEncode(t, api.Spec{Kind: api.SpecDown, Reg: api.SP, Index: -1}, api.Operand{Access: 'w', Size: 4}, written{raw("7e"), api.OK})
}

// The kinds' numbers are the modes' from 5 to 11, but that is told by api alone.
func TestKinds(t *testing.T) {
	list := [...]int{api.SpecLiteral, api.SpecRegister, api.SpecDeferred, api.SpecDown, api.SpecUp, api.SpecUpAt, api.SpecNear, api.SpecNearAt, api.SpecNow, api.SpecAbs, api.SpecBad}
	if list != [...]int{0, 5, 6, 7, 8, 9, 10, 11, 12, 13, 14} {
		t.Errorf("kinds %v", list)
	}
}

// entry is bytes, of which accesses and sizes, and what they are; value is a number with a sign.
type entry struct {
	b                string
	access, size     string
	kind, reg, index int
	value            int64
}

func (x entry) spec() api.Spec {
	return api.Spec{Kind: x.kind, Reg: x.reg, Index: x.index, Value: uint32(x.value), Bytes: len(raw(x.b))}
}

// rows: bytes that are whole specifiers, and the fewest that say so.
var rows = []entry{
	{"00", "r", "bwl", api.SpecLiteral, 0, -1, 0},
	{"01", "r", "bwl", api.SpecLiteral, 0, -1, 1},
	{"0f", "r", "bwl", api.SpecLiteral, 0, -1, 15},
	{"10", "r", "bwl", api.SpecLiteral, 0, -1, 16},
	{"1f", "r", "bwl", api.SpecLiteral, 0, -1, 31},
	{"20", "r", "bwl", api.SpecLiteral, 0, -1, 32},
	{"2f", "r", "bwl", api.SpecLiteral, 0, -1, 47},
	{"30", "r", "bwl", api.SpecLiteral, 0, -1, 48},
	{"3f", "r", "bwl", api.SpecLiteral, 0, -1, 63},

	{"50", "rwmv", "bwl", api.SpecRegister, 0, -1, 0},
	{"57", "rwmv", "bwl", api.SpecRegister, 7, -1, 0},
	{"5c", "rwmv", "bwl", api.SpecRegister, 12, -1, 0},
	{"5e", "rwmv", "bwl", api.SpecRegister, 14, -1, 0},

	{"60", "rwmav", "bwl", api.SpecDeferred, 0, -1, 0},
	{"6e", "rwmav", "bwl", api.SpecDeferred, 14, -1, 0},
	{"70", "rwmav", "bwl", api.SpecDown, 0, -1, 0},
	{"7e", "rwmav", "bwl", api.SpecDown, 14, -1, 0},
	{"80", "rwmav", "bwl", api.SpecUp, 0, -1, 0},
	{"8e", "rwmav", "bwl", api.SpecUp, 14, -1, 0},
	{"90", "rwmav", "bwl", api.SpecUpAt, 0, -1, 0},
	{"9e", "rwmav", "bwl", api.SpecUpAt, 14, -1, 0},

	{"8f 00", "r", "b", api.SpecNow, 0, -1, 0},
	{"8f 7f", "r", "b", api.SpecNow, 0, -1, 127},
	{"8f 80", "r", "b", api.SpecNow, 0, -1, -128},
	{"8f ff", "r", "b", api.SpecNow, 0, -1, -1},
	{"8f 01 00", "r", "w", api.SpecNow, 0, -1, 1},
	{"8f 80 00", "r", "w", api.SpecNow, 0, -1, 128},
	{"8f ff 7f", "r", "w", api.SpecNow, 0, -1, 0x7fff},
	{"8f 00 80", "r", "w", api.SpecNow, 0, -1, -0x8000},
	{"8f 34 12", "r", "w", api.SpecNow, 0, -1, 0x1234},
	{"8f 05 00 00 00", "r", "l", api.SpecNow, 0, -1, 5},
	{"8f 78 56 34 12", "r", "l", api.SpecNow, 0, -1, 0x12345678},
	{"8f ff ff ff 7f", "r", "l", api.SpecNow, 0, -1, 0x7fffffff},
	{"8f 00 00 00 80", "r", "l", api.SpecNow, 0, -1, 0x80000000},

	{"9f 00 00 00 00", "rwmav", "bwl", api.SpecAbs, 0, -1, 0},
	{"9f 01 02 03 04", "rwmav", "bwl", api.SpecAbs, 0, -1, 0x04030201},
	{"9f ff ff ff 7f", "rwmav", "bwl", api.SpecAbs, 0, -1, 0x7fffffff},
	{"9f 00 00 00 80", "rwmav", "bwl", api.SpecAbs, 0, -1, 0x80000000},
	{"9f ff ff ff ff", "rwmav", "bwl", api.SpecAbs, 0, -1, 0xffffffff},

	{"a0 00", "rwmav", "bwl", api.SpecNear, 0, -1, 0},
	{"a3 7f", "rwmav", "bwl", api.SpecNear, 3, -1, 127},
	{"ae 80", "rwmav", "bwl", api.SpecNear, 14, -1, -128},
	{"af ff", "rwmav", "bwl", api.SpecNear, 15, -1, -1},
	{"c0 80 00", "rwmav", "bwl", api.SpecNear, 0, -1, 128},
	{"c3 ff 7f", "rwmav", "bwl", api.SpecNear, 3, -1, 0x7fff},
	{"ce 7f ff", "rwmav", "bwl", api.SpecNear, 14, -1, -129},
	{"cf 00 80", "rwmav", "bwl", api.SpecNear, 15, -1, -0x8000},
	{"e0 00 80 00 00", "rwmav", "bwl", api.SpecNear, 0, -1, 0x8000},
	{"e3 ff ff ff 7f", "rwmav", "bwl", api.SpecNear, 3, -1, 0x7fffffff},
	{"ee ff 7f ff ff", "rwmav", "bwl", api.SpecNear, 14, -1, -0x8001},
	{"ef 00 00 00 80", "rwmav", "bwl", api.SpecNear, 15, -1, 0x80000000},

	{"b0 00", "rwmav", "bwl", api.SpecNearAt, 0, -1, 0},
	{"b3 7f", "rwmav", "bwl", api.SpecNearAt, 3, -1, 127},
	{"be 80", "rwmav", "bwl", api.SpecNearAt, 14, -1, -128},
	{"bf ff", "rwmav", "bwl", api.SpecNearAt, 15, -1, -1},
	{"d0 80 00", "rwmav", "bwl", api.SpecNearAt, 0, -1, 128},
	{"d3 ff 7f", "rwmav", "bwl", api.SpecNearAt, 3, -1, 0x7fff},
	{"de 7f ff", "rwmav", "bwl", api.SpecNearAt, 14, -1, -129},
	{"df 00 80", "rwmav", "bwl", api.SpecNearAt, 15, -1, -0x8000},
	{"f0 00 80 00 00", "rwmav", "bwl", api.SpecNearAt, 0, -1, 0x8000},
	{"f3 ff ff ff 7f", "rwmav", "bwl", api.SpecNearAt, 3, -1, 0x7fffffff},
	{"fe ff 7f ff ff", "rwmav", "bwl", api.SpecNearAt, 14, -1, -0x8001},
	{"ff 00 00 00 80", "rwmav", "bwl", api.SpecNearAt, 15, -1, 0x80000000},

	{"40 60", "rwmav", "bwl", api.SpecDeferred, 0, 0, 0},
	{"4e 6e", "rwmav", "bwl", api.SpecDeferred, 14, 14, 0},
	{"43 7e", "rwmav", "bwl", api.SpecDown, 14, 3, 0},
	{"41 81", "rwmav", "bwl", api.SpecUp, 1, 1, 0},
	{"4d 92", "rwmav", "bwl", api.SpecUpAt, 2, 13, 0},
	{"4c 9f 01 02 03 84", "rwmav", "bwl", api.SpecAbs, 0, 12, 0x84030201},
	{"40 af 80", "rwmav", "bwl", api.SpecNear, 15, 0, -128},
	{"47 c2 2c 01", "rwmav", "bwl", api.SpecNear, 2, 7, 300},
	{"4e e1 00 00 01 00", "rwmav", "bwl", api.SpecNear, 1, 14, 0x10000},
	{"42 b0 7f", "rwmav", "bwl", api.SpecNearAt, 0, 2, 127},
	{"46 df 00 80", "rwmav", "bwl", api.SpecNearAt, 15, 6, -0x8000},
	{"4b f9 ff ff fe ff", "rwmav", "bwl", api.SpecNearAt, 9, 11, -0x10001},

	{"00", "b", "b", api.SpecNow, 0, -1, 0},
	{"4f", "b", "b", api.SpecNow, 0, -1, 0x4f},
	{"5f", "b", "b", api.SpecNow, 0, -1, 0x5f},
	{"7f", "b", "b", api.SpecNow, 0, -1, 127},
	{"80", "b", "b", api.SpecNow, 0, -1, -128},
	{"fe", "b", "b", api.SpecNow, 0, -1, -2},
	{"42 5f", "b", "w", api.SpecNow, 0, -1, 0x5f42},
	{"ff 7f", "b", "w", api.SpecNow, 0, -1, 0x7fff},
	{"00 80", "b", "w", api.SpecNow, 0, -1, -0x8000},
	{"05 00", "b", "w", api.SpecNow, 0, -1, 5},
	{"01 02 03 04", "b", "l", api.SpecNow, 0, -1, 0x04030201},
	{"00 00 00 80", "b", "l", api.SpecNow, 0, -1, 0x80000000},
	{"ff ff ff ff", "b", "l", api.SpecNow, 0, -1, -1},
}

// Decode of each row with just its bytes, with more, and with fewer; Encode of what it is.
func TestRows(t *testing.T) {
	for _, x := range rows {
		b := raw(x.b)
		for _, o := range each(x.access, x.size) {
			sameDecode(t, bare(b), o, is(x.spec()))
			sameDecode(t, join(b, raw("00")), o, is(x.spec()))
			sameDecode(t, join(b, raw("ff 4f 8f 00 80")), o, is(x.spec()))
			for n := range len(b) {
				sameDecode(t, bare(b[:n]), o, long)
			}
			sameEncode(t, x.spec(), o, written{b, api.OK})
		}
	}
}

// Bytes that say the same as fewer do: a number with more bytes than it needs. Encode answers the fewer ones.
func TestLongerRows(t *testing.T) {
	for _, c := range [][2]string{
		{"c3 7f 00", "a3 7f"}, {"c3 80 ff", "a3 80"}, {"e3 7f 00 00 00", "a3 7f"}, {"e3 80 ff ff ff", "a3 80"}, {"e3 80 00 00 00", "c3 80 00"}, {"e3 00 80 ff ff", "c3 00 80"},
		{"df 00 00", "bf 00"}, {"ff 00 00 00 00", "bf 00"}, {"ff ff ff ff ff", "bf ff"}, {"f1 ff 7f 00 00", "d1 ff 7f"}, {"4e c0 ff ff", "4e a0 ff"}, {"40 f0 7f ff ff ff", "40 d0 7f ff"},
	} {
		for _, o := range each("rwmav", "bwl") {
			got := decode(raw(c[0]), o)
			want := decode(raw(c[1]), o)
			if want.s.Bytes != len(raw(c[1])) || got.s.Bytes != len(raw(c[0])) {
				t.Fatalf("%s and %s of %s: %s and %s", c[0], c[1], named(o), got, want)
			}
			sameEncode(t, got.s, o, written{raw(c[1]), api.OK})
			want.s.Bytes = got.s.Bytes
			if got != want {
				t.Fatalf("%s and %s of %s: %s and %s", c[0], c[1], named(o), got, want)
			}
		}
	}
}

// What can't be: bytes, of which accesses, and how many were looked at. Nothing behind these plays a part.
func TestBad(t *testing.T) {
	for _, c := range []struct {
		b, access string
		looked    int
	}{
		{"00", "wmav", 1}, {"01", "wmav", 1}, {"1f", "wmav", 1}, {"2a", "wmav", 1}, {"3f", "wmav", 1},
		{"8f", "wmav", 1}, {"8f 00", "wmav", 1}, {"8f 01 02 03 04", "wmav", 1},
		{"5f", "rwmav", 1}, {"6f", "rwmav", 1}, {"7f", "rwmav", 1},
		{"50", "a", 1}, {"51", "a", 1}, {"5e", "a", 1}, {"5f", "a", 1},
		{"4f", "rwmav", 1}, {"4f 60", "rwmav", 1}, {"4f 4f", "rwmav", 1}, {"4f 00", "rwmav", 1}, {"4f 9f 00 00 00 00", "rwmav", 1},
		{"40 00", "rwmav", 2}, {"43 01", "rwmav", 2}, {"4e 3f", "rwmav", 2},
		{"40 40", "rwmav", 2}, {"43 41", "rwmav", 2}, {"4e 4e", "rwmav", 2}, {"41 4f", "rwmav", 2}, {"41 42 60", "rwmav", 2}, {"4e 4f 60", "rwmav", 2},
		{"40 50", "rwmav", 2}, {"43 51", "rwmav", 2}, {"4e 5e", "rwmav", 2}, {"4e 5f", "rwmav", 2},
		{"40 8f", "rwmav", 2}, {"43 8f", "rwmav", 2}, {"4e 8f 00 00 00 00", "rwmav", 2},
		{"40 6f", "rwmav", 2}, {"4e 6f", "rwmav", 2}, {"40 7f", "rwmav", 2}, {"4e 7f", "rwmav", 2},
	} {
		for _, o := range each(c.access, "bwl") {
			sameDecode(t, bare(raw(c.b)), o, bad(c.looked))
			sameDecode(t, bare(raw(c.b)[:c.looked]), o, bad(c.looked))
			sameDecode(t, join(raw(c.b), raw("61 00 00 00 00")), o, bad(c.looked))
		}
	}
}

// Decode of fewer bytes than there must be: of none, of an index alone, of a number that isn't whole.
func TestDecodeLong(t *testing.T) {
	for _, o := range operands() {
		sameDecode(t, nil, o, long)
		sameDecode(t, []byte{}, o, long)
	}
	for _, c := range []struct{ b, access, size string }{
		{"40", "rwmav", "bwl"}, {"43", "rwmav", "bwl"}, {"4e", "rwmav", "bwl"},
		{"8f", "r", "bwl"}, {"8f 01", "r", "wl"}, {"8f 01 02", "r", "l"}, {"8f 01 02 03", "r", "l"},
		{"9f", "rwmav", "bwl"}, {"9f 01", "rwmav", "bwl"}, {"9f 01 02", "rwmav", "bwl"}, {"9f 01 02 03", "rwmav", "bwl"}, {"4e 9f 01 02 03", "rwmav", "bwl"},
		{"a0", "rwmav", "bwl"}, {"bf", "rwmav", "bwl"}, {"c0", "rwmav", "bwl"}, {"c0 01", "rwmav", "bwl"}, {"df 01", "rwmav", "bwl"},
		{"e0", "rwmav", "bwl"}, {"e0 01 02 03", "rwmav", "bwl"}, {"ff 01 02 03", "rwmav", "bwl"}, {"40 a0", "rwmav", "bwl"}, {"40 c0 01", "rwmav", "bwl"}, {"40 e0 01 02 03", "rwmav", "bwl"},
		{"01", "b", "wl"}, {"4f", "b", "wl"}, {"01 02", "b", "l"}, {"01 02 03", "b", "l"},
	} {
		for _, o := range each(c.access, c.size) {
			sameDecode(t, bare(raw(c.b)), o, long)
		}
	}
}

// Accesses and sizes that are none: ErrArg, whatever the bytes, or the specifier, and ahead of ErrLong and SpecBad.
func TestNoOperand(t *testing.T) {
	for _, o := range noOperands() {
		for _, text := range []string{"", "00", "40", "4f", "5f", "61", "8f", "42 a5 fe", "42 9f 01 02 03 04", "01 02 03 04 05 06 07 08 09 0a 0b 0c 0d 0e 0f 10 11"} {
			sameDecode(t, raw(text), o, arg)
		}
		for kind := -1; kind <= 16; kind++ {
			sameEncode(t, api.Spec{Kind: kind, Index: -1}, o, no)
			sameEncode(t, api.Spec{Kind: kind, Reg: 3, Index: 4, Value: 5, Bytes: 6}, o, no)
		}
	}
}

// Encode of specifiers of which there are no bytes, each of the operands told.
func TestNoBytes(t *testing.T) {
	for _, c := range []struct {
		s            api.Spec
		access, size string
	}{
		{api.Spec{Kind: api.SpecLiteral, Index: -1, Value: 5}, "wmavb", "bwl"},
		{api.Spec{Kind: api.SpecLiteral, Index: 0, Value: 5}, accesses, "bwl"},
		{api.Spec{Kind: api.SpecLiteral, Index: -1, Value: 64}, accesses, "bwl"},
		{api.Spec{Kind: api.SpecLiteral, Index: -1, Value: 256}, accesses, "bwl"},
		{api.Spec{Kind: api.SpecLiteral, Index: -1, Value: 0xffffffff}, accesses, "bwl"},
		{api.Spec{Kind: api.SpecRegister, Reg: 1, Index: -1}, "ab", "bwl"},
		{api.Spec{Kind: api.SpecRegister, Reg: 1, Index: 2}, accesses, "bwl"},
		{api.Spec{Kind: api.SpecRegister, Reg: 15, Index: -1}, accesses, "bwl"},
		{api.Spec{Kind: api.SpecDeferred, Reg: 15, Index: -1}, accesses, "bwl"},
		{api.Spec{Kind: api.SpecDeferred, Reg: 15, Index: 1}, accesses, "bwl"},
		{api.Spec{Kind: api.SpecDown, Reg: 15, Index: -1}, accesses, "bwl"},
		{api.Spec{Kind: api.SpecDown, Reg: 15, Index: 1}, accesses, "bwl"},
		{api.Spec{Kind: api.SpecUp, Reg: 15, Index: -1}, accesses, "bwl"},
		{api.Spec{Kind: api.SpecUp, Reg: 15, Index: 1}, accesses, "bwl"},
		{api.Spec{Kind: api.SpecUpAt, Reg: 15, Index: -1}, accesses, "bwl"},
		{api.Spec{Kind: api.SpecUpAt, Reg: 15, Index: 1}, accesses, "bwl"},
		{api.Spec{Kind: api.SpecNow, Index: -1, Value: 5}, "wmav", "bwl"},
		{api.Spec{Kind: api.SpecNow, Index: 0, Value: 5}, accesses, "bwl"},
		{api.Spec{Kind: api.SpecNow, Index: -1, Value: 128}, accesses, "b"},
		{api.Spec{Kind: api.SpecNow, Index: -1, Value: 255}, accesses, "b"},
		{api.Spec{Kind: api.SpecNow, Index: -1, Value: 0xffffff7f}, accesses, "b"},
		{api.Spec{Kind: api.SpecNow, Index: -1, Value: 0x8000}, accesses, "bw"},
		{api.Spec{Kind: api.SpecNow, Index: -1, Value: 0xffff}, accesses, "bw"},
		{api.Spec{Kind: api.SpecNow, Index: -1, Value: 0xffff7fff}, accesses, "bw"},
		{api.Spec{Kind: api.SpecDeferred, Index: -1}, "b", "bwl"},
		{api.Spec{Kind: api.SpecDown, Index: -1}, "b", "bwl"},
		{api.Spec{Kind: api.SpecUp, Index: -1}, "b", "bwl"},
		{api.Spec{Kind: api.SpecUpAt, Index: -1}, "b", "bwl"},
		{api.Spec{Kind: api.SpecNear, Index: -1}, "b", "bwl"},
		{api.Spec{Kind: api.SpecNearAt, Index: -1}, "b", "bwl"},
		{api.Spec{Kind: api.SpecAbs, Index: -1}, "b", "bwl"},
		{api.Spec{Kind: api.SpecBad, Index: -1}, accesses, "bwl"},
		{api.Spec{Kind: api.SpecBad, Index: -1, Bytes: 1}, accesses, "bwl"},
		{api.Spec{Kind: api.SpecBad, Index: -1, Bytes: 2}, accesses, "bwl"},
		{api.Spec{Kind: api.SpecBad, Reg: 1, Index: 2, Value: 3}, accesses, "bwl"},
		{api.Spec{Kind: api.SpecBad}, accesses, "bwl"},
	} {
		for _, o := range each(c.access, c.size) {
			sameEncode(t, c.s, o, no)
		}
	}
}

// fine: one specifier of every kind but SpecBad that an operand can be.
func fine(o api.Operand) []api.Spec {
	now := api.Spec{Kind: api.SpecNow, Index: -1, Value: 100}
	if o.Access == 'b' {
		return []api.Spec{now}
	}
	var list []api.Spec
	for _, kind := range []int{api.SpecDeferred, api.SpecDown, api.SpecUp, api.SpecUpAt} {
		list = append(list, api.Spec{Kind: kind, Reg: 3, Index: -1}, api.Spec{Kind: kind, Reg: 3, Index: 4})
	}
	for _, kind := range []int{api.SpecNear, api.SpecNearAt} {
		list = append(list, api.Spec{Kind: kind, Reg: 3, Index: -1, Value: 100}, api.Spec{Kind: kind, Reg: 3, Index: 4, Value: 1000})
	}
	list = append(list, api.Spec{Kind: api.SpecAbs, Index: -1, Value: 1000}, api.Spec{Kind: api.SpecAbs, Index: 4, Value: 1000})
	if o.Access != 'a' {
		list = append(list, api.Spec{Kind: api.SpecRegister, Reg: 3, Index: -1})
	}
	if o.Access == 'r' {
		list = append(list, api.Spec{Kind: api.SpecLiteral, Index: -1, Value: 7}, now)
	}
	return list
}

// Of each kind: numbers of registers, and of an index, that are none; kinds that are none.
func TestNoNumbers(t *testing.T) {
	for _, o := range operands() {
		for _, s := range fine(o) {
			if w := encode(s, o); w.e != api.OK {
				t.Fatalf("Encode(%+v) of %s: %s", s, named(o), w)
			}
			for _, n := range append([]int{16, 17, 18, 19, 31, 32, 47, 48, 64, 79, 128, 255}, far...) {
				x := s
				x.Reg = n
				sameEncode(t, x, o, no)
				if n > 15 {
					x = s
					x.Index = n
					sameEncode(t, x, o, no)
				}
			}
			x := s
			x.Index = 15
			sameEncode(t, x, o, no)
			for _, kind := range append([]int{1, 2, 3, 4, 14, 15, 16, 17, 18, 21, 22, 26, 28, 31, 32, 64, 128}, far...) {
				x = s
				x.Kind = kind
				sameEncode(t, x, o, no)
			}
		}
	}
}

// An Index below 0 is none, Bytes plays no part; where the kind doesn't tell Reg, each register's number is as good, where it doesn't tell Value, each value.
func TestNoPart(t *testing.T) {
	for _, o := range operands() {
		for _, s := range fine(o) {
			want := encode(s, o)
			for _, n := range append([]int{0, 1, 2, 3, 4, 5, 6, 7, 100}, far...) {
				x := s
				x.Bytes = n
				sameEncode(t, x, o, want)
				if n < 0 && s.Index < 0 {
					x.Index = n
					sameEncode(t, x, o, want)
				}
			}
			switch s.Kind {
			case api.SpecLiteral, api.SpecNow, api.SpecAbs:
				for reg := range 16 {
					x := s
					x.Reg = reg
					sameEncode(t, x, o, want)
				}
			case api.SpecRegister, api.SpecDeferred, api.SpecDown, api.SpecUp, api.SpecUpAt:
				for _, value := range values() {
					x := s
					x.Value = value
					sameEncode(t, x, o, want)
				}
			}
		}
	}
}

// Each register's number and each index from 0 to 14, by hand: the byte's lower four bits.
func TestNumbers(t *testing.T) {
	o := api.Operand{Access: 'r', Size: 4}
	for reg := range byte(15) {
		for mode, kind := range map[byte]int{0x50: api.SpecRegister, 0x60: api.SpecDeferred, 0x70: api.SpecDown, 0x80: api.SpecUp, 0x90: api.SpecUpAt} {
			s := api.Spec{Kind: kind, Reg: int(reg), Index: -1, Bytes: 1}
			sameDecode(t, []byte{mode + reg}, o, is(s))
			sameEncode(t, s, o, written{[]byte{mode + reg}, api.OK})
		}
		s := api.Spec{Kind: api.SpecDeferred, Reg: 14 - int(reg), Index: int(reg), Bytes: 2}
		sameDecode(t, []byte{0x40 + reg, 0x6e - reg}, o, is(s))
		sameEncode(t, s, o, written{[]byte{0x40 + reg, 0x6e - reg}, api.OK})
	}
	for value := range byte(64) {
		s := api.Spec{Kind: api.SpecLiteral, Index: -1, Value: uint32(value), Bytes: 1}
		sameDecode(t, []byte{value}, o, is(s))
		sameEncode(t, s, o, written{[]byte{value}, api.OK})
	}
}

// Beside ErrArg there are no bytes.
func TestNothingBeside(t *testing.T) {
	for _, s := range []api.Spec{{Kind: api.SpecBad, Index: -1}, {Kind: api.SpecRegister, Reg: 16}, {Kind: api.SpecNear, Index: 15, Value: 5}, {Kind: 1}} {
		if b, e := spec.Encode(s, api.Operand{Access: 'r', Size: 1}); e != api.ErrArg || len(b) != 0 {
			t.Errorf("Encode(%+v): % x, error %d", s, b, e)
		}
	}
}
