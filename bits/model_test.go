package bits_test

import (
	"testing"

	"camshaft/api"
	"camshaft/bits"
)

// P1.1, of all numbers of one byte and the edges of the others, held against the model of help_test.go.

func TestModelOne(t *testing.T) {
	for _, size := range sizes {
		for _, x := range numbers(size) {
			_, signs := result(value(x, size), size)
			if neg := bits.Neg(x, size); neg != (value(x, size) < 0) {
				t.Fatalf("Neg(%x, %d): %v", x, size, neg)
			}
			if e := bits.Extend(x, size); int64(int32(e)) != value(x, size) {
				t.Fatalf("Extend(%x, %d): %x", x, size, e)
			}
			if f := bits.Signs(x, size); f != signs {
				t.Fatalf("Signs(%x, %d): %+v", x, size, f)
			}
		}
	}
}

func TestModelAddSub(t *testing.T) {
	pairs(func(a, b uint32, size int) {
		restA, restB := rest(int64(a), size), rest(int64(b), size)
		for _, more := range []bool{false, true} {
			x, f := result(value(a, size)+value(b, size)+count(more), size)
			f.C = restA+restB+count(more) >= span(size)
			if y, g := bits.Add(a, b, more, size); y != x || g != f {
				t.Fatalf("Add(%x, %x, %v, %d): %x, %+v", a, b, more, size, y, g)
			}
			x, f = result(value(a, size)-value(b, size)-count(more), size)
			f.C = restA-restB-count(more) < 0
			if y, g := bits.Sub(a, b, more, size); y != x || g != f {
				t.Fatalf("Sub(%x, %x, %v, %d): %x, %+v", a, b, more, size, y, g)
			}
		}
	})
}

func TestModelMul(t *testing.T) {
	pairs(func(a, b uint32, size int) {
		x, f := result(value(a, size)*value(b, size), size)
		if y, g := bits.Mul(a, b, size); y != x || g != f {
			t.Fatalf("Mul(%x, %x, %d): %x, %+v", a, b, size, y, g)
		}
	})
}

// quotient: Div by the document's words: what is over has the sign of a, and is nearer to nothing than b.
func quotient(a, b uint32, size int) (uint32, api.Flags, bool) {
	n, by := value(a, size), value(b, size)
	if by == 0 || n == -span(size)/2 && by == -1 {
		x, f := result(n, size)
		f.V = true
		return x, f, by != 0
	}
	q := max(n, -n) / max(by, -by)
	if (n < 0) != (by < 0) {
		q = -q
	}
	x, f := result(q, size)
	return x, f, true
}

func TestModelDiv(t *testing.T) {
	pairs(func(a, b uint32, size int) {
		x, f, ok := quotient(a, b, size)
		if y, g, is := bits.Div(a, b, size); y != x || g != f || is != ok {
			t.Fatalf("Div(%x, %x, %d): %x, %+v, %v", a, b, size, y, g, is)
		}
	})
}

func TestModelLessComparePut(t *testing.T) {
	pairs(func(a, b uint32, size int) {
		restA, restB := rest(int64(a), size), rest(int64(b), size)
		want := api.Flags{N: value(a, size) < value(b, size), Z: restA == restB, C: restA < restB}
		if with, without := bits.Less(a, b, size); with != want.N || without != want.C {
			t.Fatalf("Less(%x, %x, %d): %v, %v", a, b, size, with, without)
		}
		if f := bits.Compare(a, b, size); f != want {
			t.Fatalf("Compare(%x, %x, %d): %+v", a, b, size, f)
		}
		if x := bits.Put(a, b, size); int64(x) != int64(a)-restA+restB {
			t.Fatalf("Put(%x, %x, %d): %x", a, b, size, x)
		}
	})
}
