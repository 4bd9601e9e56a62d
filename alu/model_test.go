package alu_test

import (
	"testing"

	"camshaft/alu"
)

// P8.1, held against the model of help_test.go.

// All numbers of one byte against all of one byte, of every operation.
func TestModelOfBytes(t *testing.T) {
	for op := first; op <= last; op++ {
		for a := range uint32(256) {
			for b := range uint32(256) {
				for _, c := range both {
					same(t, op, a, b, c, 1, model(op, a, b, c, 1))
				}
			}
		}
	}
}

// The edges of each size, bare, and with bits beyond it, of every operation.
func TestModelOfEdges(t *testing.T) {
	pairs(func(a, b uint32, c bool, size int) {
		for op := first; op <= last; op++ {
			same(t, op, a, b, c, size, model(op, a, b, c, size))
		}
	})
}

// All numbers of two bytes against some.
func TestModelOfWords(t *testing.T) {
	for op := first; op <= last; op++ {
		for a := range uint32(65536) {
			b := a * 0x9e3779b1 >> 7
			same(t, op, a, b, a%3 == 0, 2, model(op, a, b, a%3 == 0, 2))
			same(t, op, b, a, a%3 != 0, 2, model(op, b, a, a%3 != 0, 2))
		}
	}
}

// Numbers of four bytes of all lengths, drawn by a rule.
func TestModelOfLongs(t *testing.T) {
	draw := uint32(1)
	next := func() uint32 {
		draw = draw*1664525 + 1013904223
		length := draw >> 27
		draw = draw*1664525 + 1013904223
		return uint32(int32(draw) >> length)
	}
	for range 20000 {
		a, b := next(), next()
		for op := first; op <= last; op++ {
			for _, c := range both {
				same(t, op, a, b, c, 4, model(op, a, b, c, 4))
			}
		}
	}
}

// turned fails unless Convert answers, between all sizes, signed and not, what the model does.
func turned(t *testing.T, a uint32, from int) {
	t.Helper()
	for _, to := range sizes {
		for _, signed := range both {
			for _, c := range both {
				x, f := alu.Convert(a, from, to, signed, c)
				if got, want := (answer{x, f, true}), converted(a, from, to, signed, c); got != want {
					t.Fatalf("Convert(%x, %d, %d, %v, %v): %s, want %s", a, from, to, signed, c, got, want)
				}
			}
		}
	}
}

// Convert of all numbers of two bytes, as bytes with bits beyond, as words, and as longs, of either sign.
func TestModelConvert(t *testing.T) {
	for a := range uint32(65536) {
		for _, from := range sizes {
			turned(t, a, from)
			turned(t, a|0xffff0000, from)
			turned(t, a<<16|a>>9, from)
		}
	}
}

// Convert of the ends of each size, and their neighbours, from each size.
func TestModelConvertEdges(t *testing.T) {
	for _, size := range sizes {
		for _, a := range numbers(size) {
			for _, from := range sizes {
				turned(t, a, from)
				turned(t, -a, from)
			}
		}
	}
}
