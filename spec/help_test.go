package spec_test

import (
	"bytes"
	"encoding/hex"
	"fmt"
	"math"
	"strings"
	"testing"

	"camshaft/api"
	"camshaft/spec"
)

const accesses = "rwmavb"

var sizes = []int{1, 2, 4}

// operands: each access with each size.
func operands() []api.Operand { return each(accesses, "bwl") }

// each: every one of some accesses with every one of some sizes' letters.
func each(letters, widths string) []api.Operand {
	var list []api.Operand
	for _, access := range []byte(letters) {
		for _, width := range []byte(widths) {
			list = append(list, api.Operand{Access: access, Size: sizes[strings.IndexByte("bwl", width)]})
		}
	}
	return list
}

// answer is what Decode answers; written: what Encode does.
type answer struct {
	s api.Spec
	e api.Errno
}

type written struct {
	b []byte
	e api.Errno
}

func decode(b []byte, o api.Operand) answer {
	s, e := spec.Decode(b, o)
	return answer{s, e}
}

func encode(s api.Spec, o api.Operand) written {
	b, e := spec.Encode(s, o)
	return written{b, e}
}

// is: an answer without an error; bad: that of what can't be; long and arg: the errors.
func is(s api.Spec) answer { return answer{s, api.OK} }

func bad(looked int) answer {
	return is(api.Spec{Kind: api.SpecBad, Index: -1, Bytes: looked})
}

var (
	long = answer{api.Spec{}, api.ErrLong}
	arg  = answer{api.Spec{}, api.ErrArg}
	no   = written{nil, api.ErrArg}
)

// raw: the bytes that a text is, to the base 16, with blanks.
func raw(text string) []byte {
	b, err := hex.DecodeString(strings.ReplaceAll(text, " ", ""))
	if err != nil {
		panic(err)
	}
	return b
}

// bare: bytes without spare room, so that one that is looked at beyond them isn't there.
func bare(b []byte) []byte { return append(make([]byte, 0, len(b)), b...)[:len(b):len(b)] }

// join: bytes behind one another, in new memory.
func join(parts ...[]byte) []byte { return bytes.Join(parts, nil) }

func named(o api.Operand) string { return fmt.Sprintf("%c%d", o.Access, o.Size) }

func (w written) same(v written) bool { return w.e == v.e && bytes.Equal(w.b, v.b) }

func (w written) String() string { return fmt.Sprintf("% x, error %d", w.b, w.e) }

func (w answer) String() string { return fmt.Sprintf("%+v, error %d", w.s, w.e) }

// sameDecode fails unless Decode answers what is wanted; sameEncode: Encode.
func sameDecode(t *testing.T, b []byte, o api.Operand, want answer) {
	t.Helper()
	if got := decode(b, o); got != want {
		t.Fatalf("Decode(% x) of %s: %s, want %s", b, named(o), got, want)
	}
}

func sameEncode(t *testing.T, s api.Spec, o api.Operand, want written) {
	t.Helper()
	if got := encode(s, o); !got.same(want) {
		t.Fatalf("Encode(%+v) of %s: %s, want %s", s, named(o), got, want)
	}
}

// far: numbers that are no size, no kind, no register.
var far = []int{-1, -2, -3, -4, -5, -8, -12, -16, -256, 256, 257, 258, 260, 262, 265, 1 << 16, 1<<16 + 1, 1<<16 + 4, 1<<16 + 5, 1<<31 - 1, 1 << 31, 1 << 32, 1<<32 + 1, 1<<32 + 2, 1<<32 + 4, 1<<32 + 6, 1<<32 + 12, -1 << 31, -1 << 32, 1 << 60, 1<<60 + 1, 1<<62 + 2, 1<<62 + 4, math.MaxInt - 1, math.MaxInt, math.MinInt, math.MinInt + 1, math.MinInt + 2, math.MinInt + 4, math.MinInt + 6}

// noOperands: such as are none: an access that is none, or a size.
func noOperands() []api.Operand {
	var list []api.Operand
	for access := range 256 {
		if strings.IndexByte(accesses, byte(access)) < 0 {
			for _, size := range sizes {
				list = append(list, api.Operand{Access: byte(access), Size: size})
			}
		}
	}
	for _, access := range []byte(accesses) {
		for _, size := range append([]int{0, 3, 5, 6, 7, 8, 9, 12, 15, 16, 17, 31, 32, 64}, far...) {
			list = append(list, api.Operand{Access: access, Size: size})
		}
	}
	return append(list, api.Operand{}, api.Operand{Access: 'x', Size: 3}, api.Operand{Access: 0, Size: math.MaxInt})
}

// tails: bytes for numbers: nothing, the ends, all the same, rising, and such as look like other specifiers.
var tails = [][]byte{
	raw("00 00 00 00"), raw("ff ff ff ff"), raw("80 00 00 00"), raw("7f 00 00 00"), raw("00 80 00 00"), raw("ff 7f 00 00"), raw("00 00 00 80"), raw("ff ff ff 7f"),
	raw("01 02 03 04"), raw("fe ff ff ff"), raw("80 ff ff ff"), raw("7f ff ff ff"), raw("00 80 ff ff"), raw("4f 4f 4f 4f"), raw("42 8f 5f 9f"), raw("12 34 56 78"), raw("ed cb a9 87"),
}

// starts calls f with what specifiers can begin with: each byte, and each byte behind each index.
func starts(f func(b []byte)) {
	for head := range 256 {
		f([]byte{byte(head)})
		for reg := range 16 {
			f([]byte{byte(0x40 + reg), byte(head)})
		}
	}
}

// values: for numbers: the ends of each size with a sign and without, of a literal, their neighbours, and ordinary ones.
func values() []uint32 {
	list := []uint32{2, 5, 7, 31, 32, 33, 62, 100, 300, 1000, 0x1234, 0x12345678, 0x89abcdef, 0xdeadbeef, 0xffffff00, 0xffff0000, 0x80, 0x8000}
	for _, end := range []uint32{0, 64, 1 << 7, 1 << 8, 1 << 15, 1 << 16, 1 << 24, 1 << 31} {
		list = append(list, end-1, end, end+1, -end-1, -end, -end+1)
	}
	return list
}
