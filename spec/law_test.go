package spec_test

import (
	"bytes"
	"sync"
	"testing"

	"camshaft/api"
	"camshaft/spec"
)

// behinds: bytes that stand behind a specifier: none, such as go on with a number, or look like another specifier.
var behinds = [][]byte{nil, raw("00"), raw("ff"), raw("4f"), raw("60 61"), raw("00 00 00 00"), raw("ff ff ff ff ff"), raw("42 a5 fe"), raw("8f 9f af bf cf df ef ff")}

// kinds calls f with specifiers of every kind, with many numbers of registers, an index, and values.
func kinds(f func(s api.Spec)) {
	for kind := api.SpecLiteral; kind <= api.SpecBad; kind++ {
		for _, reg := range []int{0, 1, 7, 12, 13, 14, 15} {
			for _, index := range []int{-7, -1, 0, 1, 7, 14, 15} {
				for _, value := range values() {
					f(api.Spec{Kind: kind, Reg: reg, Index: index, Value: value})
				}
			}
		}
	}
}

// tellsReg, tellsValue: whether a kind does.
func tellsReg(kind int) bool { return 5 <= kind && kind <= 11 }

func tellsValue(kind int) bool {
	return kind == api.SpecLiteral || api.SpecNear <= kind && kind <= api.SpecAbs
}

// plain: a specifier with what its kind tells alone, and with so many bytes.
func plain(s api.Spec, n int) api.Spec {
	x := api.Spec{Kind: s.Kind, Index: max(s.Index, -1), Bytes: n}
	if tellsReg(s.Kind) {
		x.Reg = s.Reg
	}
	if tellsValue(s.Kind) {
		x.Value = s.Value
	}
	return x
}

// P11.2: what is encoded is decoded, whatever stands behind.
func TestEncodedIsDecoded(t *testing.T) {
	for _, o := range operands() {
		count := 0
		kinds(func(s api.Spec) {
			w := encode(s, o)
			if w.e != api.OK {
				return
			}
			count++
			for _, tail := range behinds {
				sameDecode(t, join(w.b, tail), o, is(plain(s, len(w.b))))
			}
		})
		if count == 0 {
			t.Errorf("nothing is encoded of %s", named(o))
		}
	}
}

// wholes calls f with bytes that begin with a specifier, of every beginning, with numbers of all kinds behind it.
func wholes(f func(b []byte)) {
	count := 0
	starts(func(b []byte) {
		f(join(b, tails[count%len(tails)]))
		f(join(b, tails[(count+5)%len(tails)]))
		count++
	})
	for _, tail := range tails {
		for head := range 256 {
			f(join([]byte{byte(head)}, tail))
		}
	}
}

// P11.2: what is decoded can be encoded, in no more bytes, which are read the same; unless it can't be.
func TestDecodedIsEncoded(t *testing.T) {
	for _, o := range operands() {
		wholes(func(b []byte) {
			a := decode(b, o)
			if a.e == api.ErrLong {
				return
			}
			if a.s.Kind == api.SpecBad {
				sameEncode(t, a.s, o, no)
				return
			}
			w := encode(a.s, o)
			if w.e != api.OK || len(w.b) > a.s.Bytes {
				t.Fatalf("% x of %s: %s, encoded: %s", b, named(o), a, w)
			}
			a.s.Bytes = len(w.b)
			sameDecode(t, w.b, o, a)
		})
	}
}

// P11.2: no fewer bytes say the same: cut, they aren't whole; and what is encoded again is the same.
func TestFewest(t *testing.T) {
	for _, o := range operands() {
		kinds(func(s api.Spec) {
			w := encode(s, o)
			if w.e != api.OK {
				return
			}
			for n := range len(w.b) {
				sameDecode(t, bare(w.b[:n]), o, long)
			}
			sameEncode(t, decode(w.b, o).s, o, w)
		})
	}
}

// P11.3: a specifier hangs on its own bytes alone: with none behind them, or others, the answer is the same; with fewer there is none.
func TestOwnBytes(t *testing.T) {
	for _, o := range operands() {
		wholes(func(b []byte) {
			a := decode(b, o)
			if a.e != api.OK {
				return
			}
			n := a.s.Bytes
			if n < 1 || n > 6 || n > len(b) {
				t.Fatalf("Decode(% x) of %s: %s", b, named(o), a)
			}
			sameDecode(t, bare(b[:n]), o, a)
			for _, tail := range behinds {
				sameDecode(t, join(b[:n], tail), o, a)
			}
			for k := range n {
				sameDecode(t, bare(b[:k]), o, long)
			}
		})
	}
}

// P11.3: each of its own bytes plays a part: another one there makes another answer; but of what can't be.
func TestEachByte(t *testing.T) {
	for _, o := range operands() {
		wholes(func(b []byte) {
			a := decode(b, o)
			if a.e != api.OK || a.s.Kind == api.SpecBad {
				return
			}
			for i := range a.s.Bytes {
				c := bytes.Clone(b)
				c[i] ^= 1
				if decode(c, o) == a {
					t.Fatalf("% x and % x of %s are both %s", b, c, named(o), a)
				}
			}
		})
	}
}

// P11.3: bytes in spare room, and those ahead of the slice, play no part.
func TestSpareRoom(t *testing.T) {
	for _, o := range operands() {
		wholes(func(b []byte) {
			whole := join(raw("4f 43"), b, raw("00 01 02"))
			for n := range len(b) + 1 {
				sameDecode(t, whole[2:2+n], o, decode(bare(b[:n]), o))
			}
		})
	}
}

// P11.3: of many bytes only the first ones play a part.
func TestMany(t *testing.T) {
	many := bytes.Repeat(raw("9f 41 c2"), 1<<18)
	for _, o := range operands() {
		for at := range 3 {
			sameDecode(t, many[at:], o, decode(bare(many[at:at+8]), o))
		}
	}
}

// Rule 3: the bytes that are handed in stay as they are, spare room included, and aren't kept.
func TestHandedIn(t *testing.T) {
	for _, o := range operands() {
		wholes(func(b []byte) {
			whole := join(b, raw("a5 5a c3 3c"))
			was := bytes.Clone(whole)
			for n := range len(b) + 1 {
				decode(whole[:n], o)
			}
			if !bytes.Equal(whole, was) {
				t.Fatalf("% x of %s were changed: % x", was, named(o), whole)
			}
			a := decode(whole, o)
			for i := range whole {
				whole[i] = 0x62
			}
			if o.Access != 'b' {
				sameDecode(t, whole, o, is(api.Spec{Kind: api.SpecDeferred, Reg: 2, Index: -1, Bytes: 1}))
			}
			sameDecode(t, was, o, a)
		})
	}
}

// Rule 3: what is answered is new memory: writing into one answer, spare room included, changes no other one.
func TestNewMemory(t *testing.T) {
	for _, o := range operands() {
		for _, s := range fine(o) {
			first, _ := spec.Encode(s, o)
			want := written{bytes.Clone(first), api.OK}
			second := encode(s, o)
			all := first[:cap(first)]
			for i := range all {
				all[i] ^= 0xff
			}
			if !second.same(want) {
				t.Fatalf("Encode(%+v) of %s, asked ahead: %s, want %s", s, named(o), second, want)
			}
			sameEncode(t, s, o, want)
			for _, other := range fine(o) {
				encode(other, o)
			}
			if !second.same(want) {
				t.Fatalf("Encode(%+v) of %s, others asked behind: %s, want %s", s, named(o), second, want)
			}
		}
	}
}

// Rule 4: what is answered doesn't hang on what was asked ahead of it.
func TestOrder(t *testing.T) {
	heads := make([][]byte, 256)
	for i := range heads {
		heads[i] = join([]byte{byte(i)}, raw("e1 82 c3 84 05"))
	}
	for _, o := range operands() {
		for _, b := range heads {
			want := modelDecode(b, o)
			for _, other := range operands() {
				decode(heads[(int(b[0])*7+other.Size)%256], other)
				encode(want.s, other)
				sameDecode(t, b, o, want)
			}
		}
	}
}

// Rule 4: nor on what is asked at the same time.
func TestTogether(t *testing.T) {
	var group sync.WaitGroup
	for _, o := range operands() {
		group.Go(func() {
			for head := range 256 {
				b := join([]byte{byte(head)}, raw("e1 82 c3 84 05"))
				want := modelDecode(b, o)
				got := decode(b, o)
				if got != want {
					t.Errorf("Decode(% x) of %s: %s, want %s", b, named(o), got, want)
				}
				w := encode(got.s, o)
				if can := got.s.Kind != api.SpecBad; can != (w.e == api.OK) || len(w.b) > got.s.Bytes {
					t.Errorf("Encode(%+v) of %s: %s", got.s, named(o), w)
				}
			}
		})
	}
	group.Wait()
}
