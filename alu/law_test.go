package alu_test

import (
	"math"
	"testing"

	"camshaft/alu"
)

// every calls f with each two of the edges of all sizes, bare, and with bits beyond.
func every(f func(a, b uint32)) {
	var list []uint32
	for _, size := range sizes {
		list = append(list, numbers(size)...)
	}
	for _, a := range list {
		for _, b := range list {
			f(a, b)
		}
	}
}

// P8.2: what goes bit by bit gives the same at each size, but for the bits beyond it; its codes but for C are those of Test of it.
func TestBitByBit(t *testing.T) {
	every(func(a, b uint32) {
		for _, op := range logic {
			whole := do(op, a, b, false, 4).x
			for _, size := range sizes {
				x := uint32(rest(int64(whole), size))
				for _, c := range both {
					same(t, op, a, b, c, size, answer{x, with(do(alu.Test, x, 0, false, size).f, c), true})
				}
			}
		}
	})
}

// P8.2: bits beyond a size play no part in anything, of any operation, nor of Convert.
func TestBitsBeyond(t *testing.T) {
	pairs(func(a, b uint32, c bool, size int) {
		for op := first; op <= last; op++ {
			want := do(op, a, b, c, size)
			for _, x := range beyond(a, size) {
				same(t, op, x, b, c, size, want)
			}
			for _, y := range beyond(b, size) {
				same(t, op, a, y, c, size, want)
			}
			same(t, op, beyond(a, size)[4], beyond(b, size)[1], c, size, want)
			if int64(want.x) >= span(size) {
				t.Fatalf("Do(%s, %x, %x, %v, %d): %x", names[op], a, b, c, size, want.x)
			}
		}
	})
}

func TestBitsBeyondConvert(t *testing.T) {
	for _, from := range sizes {
		for _, a := range numbers(from) {
			for _, x := range beyond(a, from) {
				turned(t, x, from)
				for _, to := range sizes {
					for _, signed := range both {
						was, f := alu.Convert(a, from, to, signed, true)
						if now, g := alu.Convert(x, from, to, signed, true); now != was || g != f {
							t.Fatalf("Convert(%x, %d, %d, %v, true): %x, of %x %x", x, from, to, signed, now, a, was)
						}
						if int64(was) >= span(to) {
							t.Fatalf("Convert(%x, %d, %d, %v, true): %x", a, from, to, signed, was)
						}
					}
				}
			}
		}
	}
}

// P8.1: to those that neither leave C nor take it, C is nothing; those of the first lines leave it, and take nothing of it.
func TestCarryPlaysNoPart(t *testing.T) {
	pairs(func(a, b uint32, _ bool, size int) {
		for _, op := range plain {
			same(t, op, a, b, true, size, do(op, a, b, false, size))
		}
		for _, op := range logic {
			got := do(op, a, b, false, size)
			if got.f.C {
				t.Fatalf("Do(%s, %x, %x, false, %d): %s", names[op], a, b, size, got)
			}
			got.f.C = true
			same(t, op, a, b, true, size, got)
		}
	})
}

// P8.2: Cmp has the codes of Sub the other way round, without V, where that fits; where it doesn't, N is turned beside.
func TestCmpIsSub(t *testing.T) {
	fit, unfit := 0, 0
	pairs(func(a, b uint32, c bool, size int) {
		f := do(alu.Sub, b, a, c, size).f
		if f.V != !fits(value(int64(a), size)-value(int64(b), size), size) {
			t.Fatalf("Do(Sub, %x, %x, %v, %d): %q", b, a, c, size, letters(f))
		}
		if f.V {
			f.V, f.N = false, !f.N
			unfit++
		} else {
			fit++
		}
		if g := do(alu.Cmp, a, b, c, size).f; g != f {
			t.Fatalf("Do(Cmp, %x, %x, %v, %d): %q, want %q", a, b, c, size, letters(g), letters(f))
		}
	})
	if fit == 0 || unfit == 0 {
		t.Errorf("%d fit, %d don't", fit, unfit)
	}
}

// Cmp both ways round: the same Z; unless it is set, N of just one, and C of just one; with it neither.
func TestCmpBothWays(t *testing.T) {
	pairs(func(a, b uint32, c bool, size int) {
		f, g := do(alu.Cmp, a, b, c, size).f, do(alu.Cmp, b, a, c, size).f
		apart := !f.Z
		if f.Z != g.Z || f.V || g.V || (f.N != g.N) != apart || (f.C != g.C) != apart || f.Z && (f.N || f.C) {
			t.Fatalf("Cmp of %x and %x, %d: %q, %q", a, b, size, letters(f), letters(g))
		}
	})
}

// What is added is taken off again, with the same C; so are 1, and the carry; what is turned twice is as it was.
func TestTakenOff(t *testing.T) {
	pairs(func(a, b uint32, c bool, size int) {
		want := uint32(rest(int64(b), size))
		for _, two := range [][2]int{{alu.Add, alu.Sub}, {alu.Sub, alu.Add}, {alu.AddC, alu.SubC}, {alu.SubC, alu.AddC}, {alu.Xor, alu.Xor}} {
			there := do(two[0], a, b, c, size)
			back := do(two[1], a, there.x, c, size)
			if back.x != want || back.f.C != there.f.C {
				t.Fatalf("%s of %s of %x and %x, %v, %d: %s", names[two[1]], names[two[0]], a, b, c, size, back)
			}
		}
		for _, two := range [][2]int{{alu.Inc, alu.Dec}, {alu.Dec, alu.Inc}, {alu.Neg, alu.Neg}, {alu.Not, alu.Not}, {alu.Mov, alu.Mov}} {
			there := do(two[0], b, a, c, size)
			if back := do(two[1], there.x, a, c, size); back.x != want || back.f.C != there.f.C {
				t.Fatalf("%s of %s of %x, %d: %s", names[two[1]], names[two[0]], b, size, back)
			}
		}
	})
}

// joined: two halves as the whole, its codes those of the upper one, but for Z, which both must have.
func joined(low, high answer) answer {
	f := high.f
	f.Z = low.f.Z && high.f.Z
	return answer{high.x<<16 | low.x, f, low.ok && high.ok}
}

// Two halves of two bytes each, with the carry or the borrow between them, are the whole of four bytes.
func TestHalves(t *testing.T) {
	every(func(a, b uint32) {
		for _, c := range both {
			for _, two := range [][2]int{{alu.Add, alu.AddC}, {alu.Sub, alu.SubC}, {alu.AddC, alu.AddC}, {alu.SubC, alu.SubC}} {
				low := do(two[0], a, b, c, 2)
				high := do(two[1], a>>16, b>>16, low.f.C, 2)
				same(t, two[0], a, b, c, 4, joined(low, high))
			}
		}
	})
}

// A number that is made longer, and then shorter, is as it was, without V; signed or not.
func TestConvertThereAndBack(t *testing.T) {
	for _, from := range sizes {
		for _, to := range sizes {
			for _, a := range numbers(from) {
				for _, signed := range both {
					x, _ := alu.Convert(a, from, to, signed, false)
					y, f := alu.Convert(x, to, from, signed, false)
					if from <= to && (int64(y) != rest(int64(a), from) || f.V) {
						t.Fatalf("Convert(%x, %d, %d, %v) and back: %x, %q", a, from, to, signed, y, letters(f))
					}
				}
			}
		}
	}
}

// Of other sizes nothing is promised, but that the calls end, and none panics.
func TestOtherSizes(t *testing.T) {
	list := []uint32{0, 1, 0x80, 0xff, 0x8000, 0xffff, 0x7fffffff, 0x80000000, 0xffffffff}
	for _, size := range []int{0, 3, 5, 8, 32, 64, -1, -2, -4, math.MaxInt32, math.MinInt32, math.MaxInt, math.MinInt} {
		for _, a := range list {
			for _, b := range list {
				callAll(t, a, b, size)
			}
		}
	}
}

func callAll(t *testing.T, a, b uint32, size int) {
	defer func() {
		if r := recover(); r != nil {
			t.Errorf("%x, %x, size %d: %v", a, b, size, r)
		}
	}()
	for _, c := range both {
		for op := first - 1; op <= last+1; op++ {
			alu.Do(op, a, b, c, size)
		}
		for _, other := range []int{1, 2, 4, size} {
			alu.Convert(a, size, other, true, c)
			alu.Convert(b, other, size, false, c)
		}
	}
}
