package alu_test

import (
	"testing"

	"camshaft/alu"
	"camshaft/api"
)

// P8.1, by hand: numbers that are written out here.

func TestNumbers(t *testing.T) {
	for i, op := range []int{alu.Mov, alu.Not, alu.Neg, alu.Inc, alu.Dec, alu.Add, alu.Sub, alu.AddC, alu.SubC, alu.Mul, alu.Div, alu.Or, alu.Bic, alu.Xor, alu.Bit, alu.Cmp, alu.Test, alu.Clear} {
		if op != i+1 {
			t.Errorf("%s is %d, want %d", names[i+1], op, i+1)
		}
	}
}

func TestLogic(t *testing.T) {
	want := map[int]bool{1: true, 2: true, 12: true, 13: true, 14: true, 15: true, 18: true}
	for op := first; op <= last; op++ {
		if got := alu.Logic(op); got != want[op] {
			t.Errorf("Logic(%d): %v", op, got)
		}
	}
	for _, op := range noOp {
		if alu.Logic(op) {
			t.Errorf("Logic(%d): true", op)
		}
	}
}

// The chapter's example.
func TestExample(t *testing.T) {
	same(t, alu.Sub, 1, 3, false, 1, answer{2, api.Flags{}, true})
}

// Of no operation: nothing, no codes, false.
func TestNoOperation(t *testing.T) {
	for _, op := range noOp {
		for _, size := range sizes {
			for _, c := range both {
				for _, a := range []uint32{0, 5, 0x80, 0xffffffff} {
					if got := do(op, a, 0x12345678, c, size); got != (answer{}) {
						t.Fatalf("Do(%d, %x, 12345678, %v, %d): %s", op, a, c, size, got)
					}
				}
			}
		}
	}
}

// row is a line of a table: what comes of a and b, with which codes.
type row struct {
	op, size int
	a, b     uint32
	x        uint32
	codes    string
}

// checkKept: C is as it was; the rows' codes are the others.
func checkKept(t *testing.T, rows []row) {
	t.Helper()
	for _, r := range rows {
		for _, c := range both {
			same(t, r.op, r.a, r.b, c, r.size, answer{r.x, with(codes(r.codes), c), true})
		}
	}
}

// checkPlain: the rows' codes are all, whatever C was.
func checkPlain(t *testing.T, rows []row) {
	t.Helper()
	for _, r := range rows {
		for _, c := range both {
			same(t, r.op, r.a, r.b, c, r.size, answer{r.x, codes(r.codes), true})
		}
	}
}

func TestMovNotClear(t *testing.T) {
	checkKept(t, []row{
		{alu.Mov, 1, 0x12, 0x99, 0x12, ""},
		{alu.Mov, 1, 0, 0x80, 0, "Z"},
		{alu.Mov, 1, 0x7f, 0, 0x7f, ""},
		{alu.Mov, 1, 0x80, 0, 0x80, "N"},
		{alu.Mov, 1, 0xff, 1, 0xff, "N"},
		{alu.Mov, 1, 0x180, 0, 0x80, "N"},
		{alu.Mov, 1, 0xffffff00, 0, 0, "Z"},
		{alu.Mov, 1, 0x80008012, 0, 0x12, ""},
		{alu.Mov, 2, 0x1234, 0, 0x1234, ""},
		{alu.Mov, 2, 0x80, 0, 0x80, ""},
		{alu.Mov, 2, 0x8000, 0, 0x8000, "N"},
		{alu.Mov, 2, 0xffff0000, 7, 0, "Z"},
		{alu.Mov, 2, 0x80001234, 0, 0x1234, ""},
		{alu.Mov, 4, 0x12345678, 0, 0x12345678, ""},
		{alu.Mov, 4, 0x8000, 0, 0x8000, ""},
		{alu.Mov, 4, 0x80000000, 0, 0x80000000, "N"},
		{alu.Mov, 4, 0, 0xffffffff, 0, "Z"},
		{alu.Not, 1, 0, 0xff, 0xff, "N"},
		{alu.Not, 1, 0xff, 0, 0, "Z"},
		{alu.Not, 1, 0x0f, 0, 0xf0, "N"},
		{alu.Not, 1, 0x80, 0, 0x7f, ""},
		{alu.Not, 1, 0x7f, 0, 0x80, "N"},
		{alu.Not, 1, 0xabcdefff, 0, 0, "Z"},
		{alu.Not, 1, 0xffffff00, 0, 0xff, "N"},
		{alu.Not, 2, 0x00ff, 0, 0xff00, "N"},
		{alu.Not, 2, 0xffff, 0, 0, "Z"},
		{alu.Not, 2, 0x8000, 0, 0x7fff, ""},
		{alu.Not, 2, 0x7fff8001, 0, 0x7ffe, ""},
		{alu.Not, 4, 0xff, 0, 0xffffff00, "N"},
		{alu.Not, 4, 0xffffffff, 0, 0, "Z"},
		{alu.Not, 4, 0xa5a5a5a5, 0, 0x5a5a5a5a, ""},
		{alu.Clear, 1, 0, 0, 0, "Z"},
		{alu.Clear, 1, 0xff, 0x80, 0, "Z"},
		{alu.Clear, 1, 0xffffff01, 0xffffffff, 0, "Z"},
		{alu.Clear, 2, 0x8000, 0x7fff, 0, "Z"},
		{alu.Clear, 2, 0xffffffff, 0xffff0000, 0, "Z"},
		{alu.Clear, 4, 7, 7, 0, "Z"},
		{alu.Clear, 4, 0x80000000, 0xffffffff, 0, "Z"},
	})
}

func TestOrBicXorBit(t *testing.T) {
	checkKept(t, []row{
		{alu.Or, 1, 0x0c, 0x0a, 0x0e, ""},
		{alu.Or, 1, 0x80, 1, 0x81, "N"},
		{alu.Or, 1, 1, 0x80, 0x81, "N"},
		{alu.Or, 1, 0, 0, 0, "Z"},
		{alu.Or, 1, 0xff00, 0xffff0000, 0, "Z"},
		{alu.Or, 2, 0x0f0f, 0x00ff, 0x0fff, ""},
		{alu.Or, 2, 0x18000, 0x1, 0x8001, "N"},
		{alu.Or, 4, 0x12340000, 0x5678, 0x12345678, ""},
		{alu.Or, 4, 0x80000000, 0, 0x80000000, "N"},
		{alu.Or, 4, 0, 0, 0, "Z"},
		{alu.Bic, 1, 0x0c, 0x0a, 0x02, ""},
		{alu.Bic, 1, 0x0a, 0x0c, 0x04, ""},
		{alu.Bic, 1, 0xf0, 0xff, 0x0f, ""},
		{alu.Bic, 1, 0x0f, 0xff, 0xf0, "N"},
		{alu.Bic, 1, 0xff, 0xff, 0, "Z"},
		{alu.Bic, 1, 0, 0x80, 0x80, "N"},
		{alu.Bic, 1, 0x80, 0, 0, "Z"},
		{alu.Bic, 1, 1, 0xffffff01, 0, "Z"},
		{alu.Bic, 2, 0x00ff, 0x1234, 0x1200, ""},
		{alu.Bic, 2, 0x1234, 0xffff, 0xedcb, "N"},
		{alu.Bic, 2, 0, 0x12340000, 0, "Z"},
		{alu.Bic, 4, 0xffff, 0x12345678, 0x12340000, ""},
		{alu.Bic, 4, 0x12345678, 0xffff, 0xa987, ""},
		{alu.Bic, 4, 0, 0xffffffff, 0xffffffff, "N"},
		{alu.Bic, 4, 0xffffffff, 0xffffffff, 0, "Z"},
		{alu.Xor, 1, 0x0c, 0x0a, 0x06, ""},
		{alu.Xor, 1, 0xff, 0x0f, 0xf0, "N"},
		{alu.Xor, 1, 0x55, 0x55, 0, "Z"},
		{alu.Xor, 1, 0x80, 0xff, 0x7f, ""},
		{alu.Xor, 1, 0x155, 0xab000055, 0, "Z"},
		{alu.Xor, 2, 0x00ff, 0x0ff0, 0x0f0f, ""},
		{alu.Xor, 2, 0x7fff, 0xffff, 0x8000, "N"},
		{alu.Xor, 4, 0x12345678, 0xffffffff, 0xedcba987, "N"},
		{alu.Xor, 4, 0x80000000, 0x80000000, 0, "Z"},
		{alu.Bit, 1, 0x0c, 0x0a, 0x08, ""},
		{alu.Bit, 1, 0xf0, 0x0f, 0, "Z"},
		{alu.Bit, 1, 0x80, 0xff, 0x80, "N"},
		{alu.Bit, 1, 0xffffff0f, 0xffffff70, 0, "Z"},
		{alu.Bit, 2, 0x0ff0, 0x00ff, 0x00f0, ""},
		{alu.Bit, 2, 0x8001, 0xfffe, 0x8000, "N"},
		{alu.Bit, 2, 0xffff00ff, 0xffffff00, 0, "Z"},
		{alu.Bit, 4, 0x12345678, 0xffff0000, 0x12340000, ""},
		{alu.Bit, 4, 0xffffffff, 0x80000000, 0x80000000, "N"},
		{alu.Bit, 4, 0x55555555, 0xaaaaaaaa, 0, "Z"},
	})
}

func TestNegIncDec(t *testing.T) {
	checkPlain(t, []row{
		{alu.Neg, 1, 0, 9, 0, "Z"}, // of nothing: no borrow
		{alu.Neg, 1, 1, 9, 0xff, "NC"},
		{alu.Neg, 1, 0xff, 9, 1, "C"},
		{alu.Neg, 1, 0x7f, 9, 0x81, "NC"},
		{alu.Neg, 1, 0x80, 9, 0x80, "NVC"}, // of the least
		{alu.Neg, 1, 0xffffff00, 9, 0, "Z"},
		{alu.Neg, 1, 0x180, 9, 0x80, "NVC"},
		{alu.Neg, 2, 0, 0, 0, "Z"},
		{alu.Neg, 2, 1, 0, 0xffff, "NC"},
		{alu.Neg, 2, 0x80, 0, 0xff80, "NC"},
		{alu.Neg, 2, 0x8000, 0, 0x8000, "NVC"},
		{alu.Neg, 2, 0x12340001, 0, 0xffff, "NC"},
		{alu.Neg, 4, 0, 1, 0, "Z"},
		{alu.Neg, 4, 5, 0, 0xfffffffb, "NC"},
		{alu.Neg, 4, 0xfffffffb, 0, 5, "C"},
		{alu.Neg, 4, 0x80000000, 0, 0x80000000, "NVC"},
		{alu.Inc, 1, 0, 9, 1, ""},
		{alu.Inc, 1, 0x7e, 9, 0x7f, ""},
		{alu.Inc, 1, 0x7f, 9, 0x80, "NV"}, // of the greatest
		{alu.Inc, 1, 0x80, 9, 0x81, "N"},
		{alu.Inc, 1, 0xff, 9, 0, "ZC"},
		{alu.Inc, 1, 0xabcdefff, 9, 0, "ZC"},
		{alu.Inc, 2, 0xff, 0, 0x100, ""},
		{alu.Inc, 2, 0x7fff, 0, 0x8000, "NV"},
		{alu.Inc, 2, 0xffff, 0, 0, "ZC"},
		{alu.Inc, 2, 0xffff0001, 0, 2, ""},
		{alu.Inc, 4, 0xffff, 0, 0x10000, ""},
		{alu.Inc, 4, 0x7fffffff, 0, 0x80000000, "NV"},
		{alu.Inc, 4, 0xffffffff, 0, 0, "ZC"},
		{alu.Dec, 1, 2, 9, 1, ""},
		{alu.Dec, 1, 1, 9, 0, "Z"},
		{alu.Dec, 1, 0, 9, 0xff, "NC"},
		{alu.Dec, 1, 0x80, 9, 0x7f, "V"}, // of the least
		{alu.Dec, 1, 0x81, 9, 0x80, "N"},
		{alu.Dec, 1, 0x100, 9, 0xff, "NC"},
		{alu.Dec, 2, 0x100, 0, 0xff, ""},
		{alu.Dec, 2, 0, 0, 0xffff, "NC"},
		{alu.Dec, 2, 0x8000, 0, 0x7fff, "V"},
		{alu.Dec, 2, 0x56780001, 0, 0, "Z"},
		{alu.Dec, 4, 0x10000, 0, 0xffff, ""},
		{alu.Dec, 4, 0, 0, 0xffffffff, "NC"},
		{alu.Dec, 4, 0x80000000, 0, 0x7fffffff, "V"},
	})
}

func TestAddSub(t *testing.T) {
	checkPlain(t, []row{
		{alu.Add, 1, 3, 4, 7, ""},
		{alu.Add, 1, 1, 0x7f, 0x80, "NV"},
		{alu.Add, 1, 0xff, 1, 0, "ZC"},
		{alu.Add, 1, 0x80, 0x80, 0, "ZVC"},
		{alu.Add, 1, 0xff, 0x80, 0x7f, "VC"},
		{alu.Add, 1, 0x1fe, 0xab000001, 0xff, "N"},
		{alu.Add, 2, 300, 400, 700, ""},
		{alu.Add, 2, 0x7fff, 1, 0x8000, "NV"},
		{alu.Add, 2, 0xffff, 0xffff, 0xfffe, "NC"},
		{alu.Add, 2, 0xffff0001, 0x12340002, 3, ""},
		{alu.Add, 4, 70000, 80000, 150000, ""},
		{alu.Add, 4, 0x7fffffff, 1, 0x80000000, "NV"},
		{alu.Add, 4, 0xffffffff, 1, 0, "ZC"},
		{alu.Add, 4, 0x80000000, 0xffffffff, 0x7fffffff, "VC"},
		{alu.Sub, 1, 1, 3, 2, ""},
		{alu.Sub, 1, 3, 1, 0xfe, "NC"},
		{alu.Sub, 1, 5, 5, 0, "Z"},
		{alu.Sub, 1, 1, 0x80, 0x7f, "V"},
		{alu.Sub, 1, 0x80, 0, 0x80, "NVC"},
		{alu.Sub, 1, 0xffffff04, 0x109, 5, ""},
		{alu.Sub, 2, 400, 900, 500, ""},
		{alu.Sub, 2, 1, 0, 0xffff, "NC"},
		{alu.Sub, 2, 1, 0x8000, 0x7fff, "V"},
		{alu.Sub, 2, 0x8000, 0x7fff, 0xffff, "NVC"},
		{alu.Sub, 2, 0x7fff0005, 5, 0, "Z"},
		{alu.Sub, 4, 5, 3, 0xfffffffe, "NC"},
		{alu.Sub, 4, 40000, 90000, 50000, ""},
		{alu.Sub, 4, 1, 0x80000000, 0x7fffffff, "V"},
		{alu.Sub, 4, 0x80000000, 0, 0x80000000, "NVC"},
	})
}

func TestAddCSubC(t *testing.T) {
	for _, r := range []struct {
		op, size  int
		a, b      uint32
		x         uint32 // without C
		codes     string
		xWith     uint32 // with C
		codesWith string
		shows     string
	}{
		{alu.AddC, 1, 3, 4, 7, "", 8, "", "one more"},
		{alu.AddC, 1, 0, 0, 0, "Z", 1, "", "one alone"},
		{alu.AddC, 1, 0xff, 0, 0xff, "N", 0, "ZC", "C by the one"},
		{alu.AddC, 1, 0, 0xff, 0xff, "N", 0, "ZC", "C by the one"},
		{alu.AddC, 1, 0xfe, 1, 0xff, "N", 0, "ZC", "C by the one"},
		{alu.AddC, 1, 0x7f, 0, 0x7f, "", 0x80, "NV", "V by the one"},
		{alu.AddC, 1, 0xff, 0x80, 0x7f, "VC", 0x80, "NC", "V gone by the one"},
		{alu.AddC, 1, 0xff, 0xff, 0xfe, "NC", 0xff, "NC", "C both times"},
		{alu.AddC, 1, 0x1ff, 0xffffff00, 0xff, "N", 0, "ZC", "bits beyond"},
		{alu.AddC, 2, 0xffff, 0, 0xffff, "N", 0, "ZC", "C by the one"},
		{alu.AddC, 2, 0x7fff, 0, 0x7fff, "", 0x8000, "NV", "V by the one"},
		{alu.AddC, 2, 0xff, 0, 0xff, "", 0x100, "", "no end of a size"},
		{alu.AddC, 4, 1, 2, 3, "", 4, "", "one more"},
		{alu.AddC, 4, 0xffffffff, 0, 0xffffffff, "N", 0, "ZC", "C by the one"},
		{alu.AddC, 4, 0x7fffffff, 0, 0x7fffffff, "", 0x80000000, "NV", "V by the one"},
		{alu.AddC, 4, 0xffffffff, 0x80000000, 0x7fffffff, "VC", 0x80000000, "NC", "V gone by the one"},
		{alu.SubC, 1, 4, 9, 5, "", 4, "", "one less"},
		{alu.SubC, 1, 9, 4, 0xfb, "NC", 0xfa, "NC", "b less a"},
		{alu.SubC, 1, 5, 5, 0, "Z", 0xff, "NC", "C by the one"},
		{alu.SubC, 1, 4, 5, 1, "", 0, "Z", "down to nothing"},
		{alu.SubC, 1, 0, 0x80, 0x80, "N", 0x7f, "V", "V by the one"},
		{alu.SubC, 1, 0x80, 0, 0x80, "NVC", 0x7f, "C", "V gone by the one"},
		{alu.SubC, 1, 0xff, 0, 1, "C", 0, "ZC", "a and the one are more than a size holds"},
		{alu.SubC, 1, 0x105, 0xffffff05, 0, "Z", 0xff, "NC", "bits beyond"},
		{alu.SubC, 2, 7, 7, 0, "Z", 0xffff, "NC", "C by the one"},
		{alu.SubC, 2, 0, 0x8000, 0x8000, "N", 0x7fff, "V", "V by the one"},
		{alu.SubC, 2, 0x8000, 0, 0x8000, "NVC", 0x7fff, "C", "V gone by the one"},
		{alu.SubC, 4, 1, 2, 1, "", 0, "Z", "down to nothing"},
		{alu.SubC, 4, 7, 7, 0, "Z", 0xffffffff, "NC", "C by the one"},
		{alu.SubC, 4, 0, 0x80000000, 0x80000000, "N", 0x7fffffff, "V", "V by the one"},
		{alu.SubC, 4, 0xffffffff, 0, 1, "C", 0, "ZC", "a and the one are more than a size holds"},
	} {
		t.Run(r.shows, func(t *testing.T) {
			same(t, r.op, r.a, r.b, false, r.size, answer{r.x, codes(r.codes), true})
			same(t, r.op, r.a, r.b, true, r.size, answer{r.xWith, codes(r.codesWith), true})
		})
	}
}

func TestMul(t *testing.T) {
	checkPlain(t, []row{
		{alu.Mul, 1, 6, 7, 42, ""},
		{alu.Mul, 1, 0, 0x80, 0, "Z"},
		{alu.Mul, 1, 0xff, 5, 0xfb, "N"},
		{alu.Mul, 1, 0xff, 0xff, 1, ""},
		{alu.Mul, 1, 64, 2, 0x80, "NV"},
		{alu.Mul, 1, 0xc0, 2, 0x80, "N"},
		{alu.Mul, 1, 43, 0xfd, 0x7f, "V"},
		{alu.Mul, 1, 16, 16, 0, "ZV"},
		{alu.Mul, 1, 0x80, 0xff, 0x80, "NV"},
		{alu.Mul, 1, 0xffffff06, 0x80000007, 42, ""},
		{alu.Mul, 2, 200, 100, 20000, ""},
		{alu.Mul, 2, 200, 200, 40000, "NV"},
		{alu.Mul, 2, 0x8000, 0x8000, 0, "ZV"},
		{alu.Mul, 2, 0x8000, 1, 0x8000, "N"},
		{alu.Mul, 4, 20000, 10000, 200000000, ""},
		{alu.Mul, 4, 0xffffffff, 5, 0xfffffffb, "N"},
		{alu.Mul, 4, 0x10000, 0x10000, 0, "ZV"},
		{alu.Mul, 4, 0x80000000, 0xffffffff, 0x80000000, "NV"},
		{alu.Mul, 4, 0x7fffffff, 0x7fffffff, 1, "V"},
	})
}

func TestDiv(t *testing.T) {
	checkPlain(t, []row{
		{alu.Div, 1, 7, 42, 6, ""},
		{alu.Div, 1, 42, 7, 0, "Z"},
		{alu.Div, 1, 2, 7, 3, ""},
		{alu.Div, 1, 2, 0xf9, 0xfd, "N"},
		{alu.Div, 1, 0xfe, 7, 0xfd, "N"},
		{alu.Div, 1, 0xfe, 0xf9, 3, ""},
		{alu.Div, 1, 2, 0xff, 0, "Z"},
		{alu.Div, 1, 9, 0, 0, "Z"},
		{alu.Div, 1, 0xff, 0x80, 0x80, "NV"}, // the least number by -1
		{alu.Div, 1, 0xff, 0x7f, 0x81, "N"},
		{alu.Div, 1, 1, 0x80, 0x80, "N"},
		{alu.Div, 1, 0x12345607, 0xffffff2a, 6, ""},
		{alu.Div, 1, 0x2ff, 0x180, 0x80, "NV"},
		{alu.Div, 2, 200, 700, 3, ""},
		{alu.Div, 2, 200, 0xfd44, 0xfffd, "N"},
		{alu.Div, 2, 0xff38, 700, 0xfffd, "N"},
		{alu.Div, 2, 0xff38, 0xfd44, 3, ""},
		{alu.Div, 2, 0xffff, 0x8000, 0x8000, "NV"},
		{alu.Div, 4, 2, 7, 3, ""},
		{alu.Div, 4, 2, 0xfffffff9, 0xfffffffd, "N"},
		{alu.Div, 4, 0xfffffffe, 7, 0xfffffffd, "N"},
		{alu.Div, 4, 0xffffffff, 0x80000000, 0x80000000, "NV"},
		{alu.Div, 4, 2, 0x80000000, 0xc0000000, "N"},
	})
}

// By nothing: b, its Signs, V, and false.
func TestDivByNothing(t *testing.T) {
	for _, r := range []row{
		{alu.Div, 1, 0, 7, 7, "V"},
		{alu.Div, 1, 0, 0xf9, 0xf9, "NV"},
		{alu.Div, 1, 0, 0, 0, "ZV"},
		{alu.Div, 1, 0xffffff00, 0xabcdef07, 7, "V"},
		{alu.Div, 2, 0, 0x1234, 0x1234, "V"},
		{alu.Div, 2, 0xffff0000, 0x56788234, 0x8234, "NV"},
		{alu.Div, 2, 0, 0x80000000, 0, "ZV"},
		{alu.Div, 4, 0, 9, 9, "V"},
		{alu.Div, 4, 0, 0x80000000, 0x80000000, "NV"},
		{alu.Div, 4, 0, 0, 0, "ZV"},
	} {
		for _, c := range both {
			same(t, r.op, r.a, r.b, c, r.size, answer{r.x, codes(r.codes), false})
		}
	}
}

func TestCmpTest(t *testing.T) {
	checkPlain(t, []row{
		{alu.Cmp, 1, 1, 2, 1, "NC"},
		{alu.Cmp, 1, 2, 1, 2, ""},
		{alu.Cmp, 1, 5, 5, 5, "Z"},
		{alu.Cmp, 1, 0, 0, 0, "Z"},
		{alu.Cmp, 1, 0xff, 1, 0xff, "N"},
		{alu.Cmp, 1, 1, 0xff, 1, "C"},
		{alu.Cmp, 1, 0x80, 0x7f, 0x80, "N"}, // the difference doesn't fit: N all the same, no V
		{alu.Cmp, 1, 0x7f, 0x80, 0x7f, "C"},
		{alu.Cmp, 1, 0, 0x80, 0, "C"},
		{alu.Cmp, 1, 0x105, 0xffffff05, 5, "Z"},
		{alu.Cmp, 1, 0x201, 0x102, 1, "NC"},
		{alu.Cmp, 2, 0x100, 0x101, 0x100, "NC"},
		{alu.Cmp, 2, 0xffff, 1, 0xffff, "N"},
		{alu.Cmp, 2, 0x7fff, 0x8000, 0x7fff, "C"},
		{alu.Cmp, 2, 0xabcd0009, 3, 9, ""},
		{alu.Cmp, 4, 0x10000, 0x10001, 0x10000, "NC"},
		{alu.Cmp, 4, 0x80000000, 0x7fffffff, 0x80000000, "N"},
		{alu.Cmp, 4, 0x12345678, 0x12345678, 0x12345678, "Z"},
		{alu.Cmp, 4, 1, 0xffffffff, 1, "C"},
		{alu.Test, 1, 0, 1, 0, "Z"},
		{alu.Test, 1, 0x7f, 0xff, 0x7f, ""},
		{alu.Test, 1, 0x80, 0, 0x80, "N"},
		{alu.Test, 1, 0xffffff00, 0, 0, "Z"},
		{alu.Test, 1, 0x1ff, 0, 0xff, "N"},
		{alu.Test, 2, 0x80, 0, 0x80, ""},
		{alu.Test, 2, 0x8000, 0, 0x8000, "N"},
		{alu.Test, 2, 0xffff0000, 9, 0, "Z"},
		{alu.Test, 4, 0x8000, 0, 0x8000, ""},
		{alu.Test, 4, 0xffffffff, 0, 0xffffffff, "N"},
		{alu.Test, 4, 0, 0xffffffff, 0, "Z"},
	})
}

// turn is a line of a table of Convert.
type turn struct {
	from, to int
	a, x     uint32
	codes    string
}

// Signed: the number with its sign; V where it doesn't fit; C false, whatever it was.
func TestConvertSigned(t *testing.T) {
	for _, r := range []turn{
		{1, 1, 0x12, 0x12, ""},
		{1, 1, 0x80, 0x80, "N"},
		{1, 1, 0, 0, "Z"},
		{1, 1, 0xffffff7f, 0x7f, ""},
		{1, 2, 0x7f, 0x7f, ""},
		{1, 2, 0x80, 0xff80, "N"},
		{1, 2, 0xff, 0xffff, "N"},
		{1, 2, 0x8100, 0, "Z"},
		{1, 4, 0x7f, 0x7f, ""},
		{1, 4, 0x80, 0xffffff80, "N"},
		{1, 4, 0xff, 0xffffffff, "N"},
		{1, 4, 0xffffff00, 0, "Z"},
		{1, 4, 0x12345681, 0xffffff81, "N"},
		{2, 1, 0x7f, 0x7f, ""},
		{2, 1, 0x80, 0x80, "NV"},   // one more than the greatest
		{2, 1, 0xff80, 0x80, "N"},  // the least
		{2, 1, 0xff7f, 0x7f, "V"},  // one less
		{2, 1, 0xffff, 0xff, "N"},  // -1
		{2, 1, 0x100, 0, "ZV"},     // nothing is left of it
		{2, 1, 0xff00, 0, "ZV"},    // likewise
		{2, 1, 0x1234, 0x34, "V"},  // an ordinary number
		{2, 1, 0x00ff, 0xff, "NV"}, // its sign turns
		{2, 1, 0x7fff, 0xff, "NV"},
		{2, 1, 0x8000, 0, "ZV"},
		{2, 1, 0xffff007f, 0x7f, ""},
		{2, 1, 0x0001ff80, 0x80, "N"},
		{2, 2, 0x8000, 0x8000, "N"},
		{2, 2, 0xffff0000, 0, "Z"},
		{2, 4, 0x7fff, 0x7fff, ""},
		{2, 4, 0x8000, 0xffff8000, "N"},
		{2, 4, 0xff, 0xff, ""},
		{2, 4, 0xabcd1234, 0x1234, ""},
		{2, 4, 0xabcdfffe, 0xfffffffe, "N"},
		{4, 1, 0x7f, 0x7f, ""},
		{4, 1, 0x80, 0x80, "NV"},
		{4, 1, 0xffffff80, 0x80, "N"},
		{4, 1, 0xffffff7f, 0x7f, "V"},
		{4, 1, 0xffff, 0xff, "NV"},
		{4, 1, 0x10000, 0, "ZV"},
		{4, 1, 0x80000000, 0, "ZV"},
		{4, 2, 0x7fff, 0x7fff, ""},
		{4, 2, 0x8000, 0x8000, "NV"},
		{4, 2, 0xffff8000, 0x8000, "N"},
		{4, 2, 0xffff7fff, 0x7fff, "V"},
		{4, 2, 0xffffffff, 0xffff, "N"},
		{4, 2, 0x12345678, 0x5678, "V"},
		{4, 2, 0x10000, 0, "ZV"},
		{4, 4, 0x80000000, 0x80000000, "N"},
		{4, 4, 0x7fffffff, 0x7fffffff, ""},
		{4, 4, 0, 0, "Z"},
	} {
		for _, c := range both {
			if x, f := alu.Convert(r.a, r.from, r.to, true, c); x != r.x || f != codes(r.codes) {
				t.Errorf("Convert(%x, %d, %d, true, %v): %x %q, want %x %q", r.a, r.from, r.to, c, x, letters(f), r.x, r.codes)
			}
		}
	}
}

// Not signed: the bare number; N and V false, also where the highest bit is set, or bits are lost; C as it was.
func TestConvertBare(t *testing.T) {
	for _, r := range []turn{
		{1, 1, 0x12, 0x12, ""},
		{1, 1, 0x80, 0x80, ""},
		{1, 1, 0xffffff00, 0, "Z"},
		{1, 2, 0x80, 0x80, ""},
		{1, 2, 0x1234, 0x34, ""},
		{1, 2, 0, 0, "Z"},
		{1, 4, 0xff, 0xff, ""},
		{1, 4, 0x80008000, 0, "Z"},
		{2, 1, 0x7f, 0x7f, ""},
		{2, 1, 0x80, 0x80, ""},
		{2, 1, 0x1234, 0x34, ""},
		{2, 1, 0xffff, 0xff, ""},
		{2, 1, 0x100, 0, "Z"},
		{2, 2, 0x8000, 0x8000, ""},
		{2, 2, 0xffff0000, 0, "Z"},
		{2, 4, 0xffff, 0xffff, ""},
		{2, 4, 0xabcd8000, 0x8000, ""},
		{2, 4, 0x10000, 0, "Z"},
		{4, 1, 0xffffff80, 0x80, ""},
		{4, 1, 0xffffff00, 0, "Z"},
		{4, 2, 0x12348000, 0x8000, ""},
		{4, 2, 0xffff0000, 0, "Z"},
		{4, 4, 0x80000000, 0x80000000, ""},
		{4, 4, 0xffffffff, 0xffffffff, ""},
		{4, 4, 0, 0, "Z"},
	} {
		for _, c := range both {
			if x, f := alu.Convert(r.a, r.from, r.to, false, c); x != r.x || f != with(codes(r.codes), c) {
				t.Errorf("Convert(%x, %d, %d, false, %v): %x %q, want %x %q", r.a, r.from, r.to, c, x, letters(f), r.x, letters(with(codes(r.codes), c)))
			}
		}
	}
}
