package spec_test

import (
	"math/rand"
	"slices"
	"strings"
	"testing"

	"camshaft/api"
)

// line is one of the chapter's table: what a byte of that mode says.
type line struct {
	modes  string // its modes
	of15   bool   // register 15 alone
	kind   int
	reg    bool   // Reg is told
	behind string // how many bytes stand behind, for each mode; s: as many as the size
	access string // of which accesses it can be
	index  bool   // it can be behind an index
	not15  bool   // it can't be of register 15
}

// table: the chapter's, written out; the lines of register 15 stand ahead of those of all.
var table = []line{
	{modes: "0123", kind: 0, behind: "0000", access: "r"},
	{modes: "5", kind: 5, reg: true, behind: "0", access: "rwmv", not15: true},
	{modes: "6", kind: 6, reg: true, behind: "0", access: "rwmav", index: true, not15: true},
	{modes: "7", kind: 7, reg: true, behind: "0", access: "rwmav", index: true, not15: true},
	{modes: "8", of15: true, kind: 12, behind: "s", access: "r"},
	{modes: "9", of15: true, kind: 13, behind: "4", access: "rwmav", index: true},
	{modes: "8", kind: 8, reg: true, behind: "0", access: "rwmav", index: true},
	{modes: "9", kind: 9, reg: true, behind: "0", access: "rwmav", index: true},
	{modes: "ace", kind: 10, reg: true, behind: "124", access: "rwmav", index: true},
	{modes: "bdf", kind: 11, reg: true, behind: "124", access: "rwmav", index: true},
}

// find: the line of a byte, and how many bytes it has behind; nothing, if the byte is an index.
func find(x byte, size int) (l line, width int, ok bool) {
	mode, reg := "0123456789abcdef"[x/16:x/16+1], x%16
	for _, l := range table {
		at := strings.Index(l.modes, mode)
		if at < 0 || l.of15 && reg != 15 {
			continue
		}
		if l.behind == "s" {
			return l, size, true
		}
		return l, int(l.behind[at] - '0'), true
	}
	return line{}, 0, false
}

// worth: the number that bytes are, with its sign, reckoned by sums.
func worth(b []byte) uint32 {
	n, unit := int64(0), int64(1)
	for _, x := range b {
		n += int64(x) * unit
		unit *= 256
	}
	if n >= unit/2 {
		n -= unit
	}
	return uint32((n + 1<<32) % (1 << 32))
}

// modelDecode: what Decode is to answer.
func modelDecode(b []byte, o api.Operand) answer {
	if !slices.Contains(operands(), o) {
		return arg
	}
	if o.Access == 'b' {
		if len(b) < o.Size {
			return long
		}
		return is(api.Spec{Kind: 12, Index: -1, Value: worth(b[:o.Size]), Bytes: o.Size})
	}
	if len(b) == 0 {
		return long
	}
	if _, _, ok := find(b[0], o.Size); ok {
		return modelHead(b, 1, -1, o)
	}
	reg := int(b[0] - 0x40)
	if reg == 15 {
		return bad(1)
	}
	if len(b) == 1 {
		return long
	}
	return modelHead(b, 2, reg, o)
}

// modelHead: the same, of the byte ahead of a place, with an index.
func modelHead(b []byte, at, index int, o api.Operand) answer {
	x := b[at-1]
	l, width, ok := find(x, o.Size)
	if !ok || !strings.Contains(l.access, string(rune(o.Access))) || index >= 0 && !l.index || l.not15 && x%16 == 15 {
		return bad(at)
	}
	if len(b) < at+width {
		return long
	}
	s := api.Spec{Kind: l.kind, Index: index, Bytes: at + width}
	if l.reg {
		s.Reg = int(x % 16)
	}
	if l.kind == 0 {
		s.Value = uint32(x % 64)
	}
	if width > 0 {
		s.Value = worth(b[at : at+width])
	}
	return is(s)
}

// key is all that is told of a specifier but its number; that of a literal is told, since it stands in its byte.
type key struct {
	kind, reg, index, width int
	value                   uint32
}

// book: by what is told of it, how every specifier of an operand begins that can be.
func book(o api.Operand) map[key][]byte {
	all := map[key][]byte{}
	add := func(start []byte) {
		s := modelDecode(join(start, make([]byte, 8)), o).s
		if s.Kind == api.SpecBad || s.Bytes < len(start) {
			return
		}
		k := key{s.Kind, s.Reg, s.Index, s.Bytes - len(start), s.Value}
		if _, twice := all[k]; !twice {
			all[k] = start
		}
	}
	if o.Access == 'b' {
		add(nil)
		return all
	}
	starts(add)
	return all
}

// modelEncode: what Encode is to answer, of an operand's book.
func modelEncode(s api.Spec, all map[key][]byte) written {
	if s.Reg < 0 || s.Reg > 15 {
		return no
	}
	k := key{kind: s.Kind, reg: s.Reg, index: max(s.Index, -1)}
	if slices.Contains([]int{0, 12, 13}, s.Kind) {
		k.reg = 0
	}
	if s.Kind == 0 {
		k.value = s.Value
	}
	for _, width := range []int{0, 1, 2, 4} {
		k.width = width
		start, ok := all[k]
		tail := []byte{byte(s.Value), byte(s.Value >> 8), byte(s.Value >> 16), byte(s.Value >> 24)}[:width]
		if ok && (width == 0 || worth(tail) == s.Value) {
			return written{join(start, tail), api.OK}
		}
	}
	return no
}

// P11.1: Decode of every first byte, and of every one behind every index, of each operand: with every number of bytes up to more than needed.
func TestDecodeModel(t *testing.T) {
	for _, o := range operands() {
		count := 0
		starts(func(b []byte) {
			tail := tails[count%len(tails)]
			count++
			whole := join(b, tail, raw("a5 5a c3"))
			for n := range len(whole) + 1 {
				sameDecode(t, bare(whole[:n]), o, modelDecode(whole[:n], o))
			}
		})
	}
}

// P11.1: Decode of every first byte with numbers of all kinds behind it.
func TestDecodeNumbers(t *testing.T) {
	for _, o := range operands() {
		for _, tail := range tails {
			for head := range 256 {
				b := join([]byte{byte(head)}, tail)
				sameDecode(t, b, o, modelDecode(b, o))
				b = join([]byte{0x43, byte(head)}, tail)
				sameDecode(t, b, o, modelDecode(b, o))
			}
		}
	}
}

// P11.1: Decode of all two bytes, and of all numbers of two bytes behind a near mode.
func TestDecodeTwo(t *testing.T) {
	for n := range 1 << 16 {
		two := []byte{byte(n), byte(n >> 8)}
		for _, o := range operands() {
			sameDecode(t, two, o, modelDecode(two, o))
		}
		for _, head := range []byte{0xc1, 0xdf, 0x8f} {
			b := []byte{head, byte(n), byte(n >> 8)}
			sameDecode(t, b, api.Operand{Access: 'r', Size: 2}, modelDecode(b, api.Operand{Access: 'r', Size: 2}))
		}
	}
}

// P11.1: Decode of bytes drawn with a seed that stays the same.
func TestDecodeDrawn(t *testing.T) {
	draw := rand.New(rand.NewSource(11))
	for range 200000 {
		b := make([]byte, draw.Intn(10))
		draw.Read(b)
		if len(b) > 0 && draw.Intn(4) == 0 {
			b[0] = byte(0x40 + draw.Intn(16))
		}
		o := operands()[draw.Intn(18)]
		sameDecode(t, b, o, modelDecode(b, o))
	}
}

// P11.1: Encode of every kind, register, index and of numbers of all kinds, of each operand.
func TestEncodeModel(t *testing.T) {
	for _, o := range operands() {
		all := book(o)
		for kind := -1; kind <= 17; kind++ {
			for reg := range 16 {
				for index := -2; index <= 16; index++ {
					for i, value := range values() {
						if reg%5 > 0 && index%5 > 0 && (i+reg+index)%7 > 0 {
							continue
						}
						s := api.Spec{Kind: kind, Reg: reg, Index: index, Value: value}
						sameEncode(t, s, o, modelEncode(s, all))
					}
				}
			}
		}
	}
}

// P11.1: Encode of specifiers drawn with a seed that stays the same, wrong ones among them.
func TestEncodeDrawn(t *testing.T) {
	draw := rand.New(rand.NewSource(1111))
	some := values()
	for _, o := range operands() {
		all := book(o)
		for range 20000 {
			s := api.Spec{Kind: draw.Intn(16) - 1, Reg: draw.Intn(18) - 1, Index: draw.Intn(32) - 15, Value: some[draw.Intn(len(some))], Bytes: draw.Intn(9) - 1}
			if draw.Intn(2) == 0 {
				s.Value = draw.Uint32() >> draw.Intn(32)
			}
			sameEncode(t, s, o, modelEncode(s, all))
		}
	}
}

// P11.1: Encode of each near number of one and of two bytes, and a little beyond, both ways.
func TestEncodeNear(t *testing.T) {
	o := api.Operand{Access: 'a', Size: 4}
	all := book(o)
	for n := -33000; n <= 33000; n++ {
		for _, kind := range []int{api.SpecNear, api.SpecNearAt} {
			s := api.Spec{Kind: kind, Reg: (n + 33000) % 16, Index: (n+33000)%5 - 1, Value: uint32(n)}
			sameEncode(t, s, o, modelEncode(s, all))
		}
	}
}
