package alu_test

import (
	"fmt"
	"math"
	"strings"
	"testing"

	"camshaft/alu"
	"camshaft/api"
)

var (
	sizes = []int{1, 2, 4}
	both  = []bool{false, true}
)

// The operations by their numbers, which are written out in TestNumbers.
const first, last = 1, 18

// logic: the first two lines of the table; plain: those of the others to whom c is nothing.
var (
	logic = []int{alu.Mov, alu.Not, alu.Clear, alu.Or, alu.Bic, alu.Xor, alu.Bit}
	plain = []int{alu.Neg, alu.Inc, alu.Dec, alu.Add, alu.Sub, alu.Mul, alu.Div, alu.Cmp, alu.Test}
)

// noOp: numbers of no operation.
var noOp = []int{0, 19, 20, 31, 32, 33, 64, 127, 255, 256, 257, 274, 1 << 16, 1<<16 + 6, -1, -2, -6, -18, -19, -255, math.MaxInt32, math.MinInt32, math.MaxInt, math.MinInt, math.MinInt + 6}

// names: the operations' names, for what is told of them.
var names = []string{"none", "Mov", "Not", "Neg", "Inc", "Dec", "Add", "Sub", "AddC", "SubC", "Mul", "Div", "Or", "Bic", "Xor", "Bit", "Cmp", "Test", "Clear"}

// answer is what Do answers.
type answer struct {
	x  uint32
	f  api.Flags
	ok bool
}

func do(op int, a, b uint32, c bool, size int) answer {
	x, f, ok := alu.Do(op, a, b, c, size)
	return answer{x, f, ok}
}

// same fails unless Do answers what is wanted.
func same(t *testing.T, op int, a, b uint32, c bool, size int, want answer) {
	t.Helper()
	if got := do(op, a, b, c, size); got != want {
		t.Fatalf("Do(%s, %x, %x, %v, %d): %s, want %s", names[op], a, b, c, size, got, want)
	}
}

func (w answer) String() string { return fmt.Sprintf("%x %q %v", w.x, letters(w.f), w.ok) }

// codes: flags by their letters; letters: the other way round.
func codes(text string) api.Flags {
	has := func(c string) bool { return strings.Contains(text, c) }
	return api.Flags{N: has("N"), Z: has("Z"), V: has("V"), C: has("C")}
}

func letters(f api.Flags) string {
	text := ""
	for i, set := range []bool{f.N, f.Z, f.V, f.C} {
		if set {
			text += "NZVC"[i : i+1]
		}
	}
	return text
}

// with: flags with another C.
func with(f api.Flags, c bool) api.Flags {
	f.C = c
	return f
}

// The model below is reckoned with 64 bits, by moduli and bounds, so that it shares no way of reckoning with the package.

// span: how many numbers a size has.
func span(size int) int64 { return int64(1) << (8 * size) }

// rest: n's rest by a size, of any n.
func rest(n int64, size int) int64 { return (n%span(size) + span(size)) % span(size) }

// value: the rest of n as a number with a sign.
func value(n int64, size int) int64 {
	r := rest(n, size)
	if r >= span(size)/2 {
		return r - span(size)
	}
	return r
}

func fits(n int64, size int) bool { return -span(size)/2 <= n && n <= span(size)/2-1 }

// result: n's rest, with its N and Z, and V, if n doesn't fit.
func result(n int64, size int) answer {
	r := rest(n, size)
	return answer{uint32(r), api.Flags{N: r >= span(size)/2, Z: r == 0, V: !fits(n, size)}, true}
}

func count(b bool) int64 {
	if b {
		return 1
	}
	return 0
}

// model: what Do is to answer.
func model(op int, a, b uint32, c bool, size int) answer {
	switch op {
	case alu.Neg:
		return less(0, int64(a), 0, size)
	case alu.Inc:
		return more(int64(a), 1, 0, size)
	case alu.Dec:
		return less(int64(a), 1, 0, size)
	case alu.Add:
		return more(int64(b), int64(a), 0, size)
	case alu.Sub:
		return less(int64(b), int64(a), 0, size)
	case alu.AddC:
		return more(int64(b), int64(a), count(c), size)
	case alu.SubC:
		return less(int64(b), int64(a), count(c), size)
	case alu.Mul:
		return result(value(int64(b), size)*value(int64(a), size), size)
	case alu.Div:
		return quotient(value(int64(b), size), value(int64(a), size), size)
	case alu.Cmp:
		return compared(int64(a), int64(b), size)
	case alu.Test:
		return result(value(int64(a), size), size)
	}
	w := result(value(digits(op, int64(a), int64(b)), size), size)
	w.f.C = c
	return w
}

// more: n and m, and what is carried.
func more(n, m, carry int64, size int) answer {
	w := result(value(n, size)+value(m, size)+carry, size)
	w.f.C = rest(n, size)+rest(m, size)+carry >= span(size)
	return w
}

// less: n less m, and less what is borrowed.
func less(n, m, borrow int64, size int) answer {
	w := result(value(n, size)-value(m, size)-borrow, size)
	w.f.C = rest(n, size)-rest(m, size)-borrow < 0
	return w
}

// quotient: n by m; of no m, or if it doesn't fit, n, with V.
func quotient(n, m int64, size int) answer {
	if m == 0 || n == -span(size)/2 && m == -1 {
		w := result(n, size)
		w.f.V, w.ok = true, m != 0
		return w
	}
	q := max(n, -n) / max(m, -m)
	if (n < 0) != (m < 0) {
		q = -q
	}
	return result(q, size)
}

// compared: n, with the codes of n against m.
func compared(n, m int64, size int) answer {
	r, s := rest(n, size), rest(m, size)
	return answer{uint32(r), api.Flags{N: value(n, size) < value(m, size), Z: r == s, C: r < s}, true}
}

// digits: what goes bit by bit, one digit after the other.
func digits(op int, n, m int64) int64 {
	sum := int64(0)
	for worth := int64(1); worth < 1<<32; worth *= 2 {
		sum += worth * digit(op, n/worth%2, m/worth%2)
	}
	return sum
}

// digit: what comes of a digit of a and one of b, each 0 or 1.
func digit(op int, n, m int64) int64 {
	switch op {
	case alu.Mov:
		return n
	case alu.Not:
		return 1 - n
	case alu.Or:
		return max(n, m)
	case alu.Bic:
		return m * (1 - n)
	case alu.Xor:
		return (n + m) % 2
	case alu.Bit:
		return n * m
	}
	return 0
}

// converted: what Convert is to answer.
func converted(a uint32, from, to int, signed, c bool) answer {
	if signed {
		return result(value(int64(a), from), to)
	}
	w := result(rest(int64(a), from), to)
	w.f = api.Flags{Z: w.f.Z, C: c}
	return w
}

// edges: the ends of a size with and without signs, their neighbours, nothing, and ordinary numbers.
func edges(size int) []uint32 {
	half := uint32(span(size) / 2)
	all := uint32(span(size) - 1)
	return []uint32{0, 1, 2, 3, 7, 10, 100, half/2 - 1, half / 2, 0x6b4d3a59 & all, half - 2, half - 1, half, half + 1, 0x93c5a6b7 & all, half + half/2, all - 6, all - 2, all - 1, all}
}

// beyond: a number with other bits beyond a size, in some ways.
func beyond(x uint32, size int) []uint32 {
	out := ^uint32(span(size) - 1)
	return []uint32{x | out, x&^out | out&0xa5a5a5a5, x&^out | out&0x5a5a5a5a, x &^ out, x ^ out}
}

// numbers: the edges of a size, bare, and with bits beyond it.
func numbers(size int) []uint32 {
	var list []uint32
	for _, x := range edges(size) {
		list = append(list, x)
		if size < 4 {
			list = append(list, beyond(x, size)[:3]...)
		}
	}
	return list
}

// pairs calls f with each two of the numbers of each size, and both carries.
func pairs(f func(a, b uint32, c bool, size int)) {
	for _, size := range sizes {
		list := numbers(size)
		for _, a := range list {
			for _, b := range list {
				for _, c := range both {
					f(a, b, c, size)
				}
			}
		}
	}
}
