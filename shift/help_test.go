package shift_test

import (
	"fmt"
	"math/big"
	"strings"
	"testing"

	"camshaft/api"
	"camshaft/shift"
)

var both = []bool{false, true}

// answer is what Ash and Rot answer.
type answer struct {
	x uint32
	f api.Flags
}

func (w answer) String() string { return fmt.Sprintf("%x %q", w.x, letters(w.f)) }

func ash(count int, x uint32) answer {
	y, f := shift.Ash(octet(count), x)
	return answer{y, f}
}

func rot(count int, x uint32, c bool) answer {
	y, f := shift.Rot(octet(count), x, c)
	return answer{y, f}
}

// octet: the byte that a count is, from -128 to 127.
func octet(count int) byte { return byte((count + 256) % 256) }

// counts calls f with every count.
func counts(f func(count int)) {
	for count := -128; count <= 127; count++ {
		f(count)
	}
}

// codes: flags by their letters; letters: the other way round.
func codes(text string) api.Flags {
	has := func(c string) bool { return strings.Contains(text, c) }
	return api.Flags{N: has("N"), Z: has("Z"), V: has("V"), C: has("C")}
}

func letters(f api.Flags) string {
	text := ""
	for i, set := range []bool{f.N, f.Z, f.V, f.C} {
		if set {
			text += "NZVC"[i : i+1]
		}
	}
	return text
}

// numbers: nothing, the ends with signs and without, their neighbours, each power of two and its neighbours, and ordinary numbers.
func numbers() []uint32 {
	list := []uint32{0, 3, 5, 7, 10, 100, 1000, 0x12345678, 0x55555555, 0x6b4d3a59, 0x89abcdef, 0x93c5a6b7, 0xaaaaaaaa, 0xc0000001, 0xdeadbeef, 0xfffffff9}
	for i := range 32 {
		power := uint32(1) << i
		list = append(list, power-1, power, power+1, -power-1, -power, -power+1)
	}
	return list
}

// rows: some rows of 64 bits: none, all, one in each place, and others.
func rows() []uint64 {
	list := []uint64{0, 0xffffffffffffffff, 0xfedcba9876543210, 0x0123456789abcdef, 0xaaaaaaaaaaaaaaaa, 0x5555555555555555, 0xffffffff00000000, 0x00000000ffffffff, 0x8000000180000001, 0x6b4d3a5993c5a6b7}
	for i := range 64 {
		list = append(list, 1<<i, ^uint64(1<<i))
	}
	return list
}

// fields calls f with each place and each size that a field has.
func fields(f func(at, size int)) {
	for at := range 32 {
		for size := range 33 {
			f(at, size)
		}
	}
}

// The model below reckons numbers without a bound, and fields as lists of digits, so that it shares no way of reckoning with the package.

// digits: the lowest n digits of a number to the base 2, the lowest first.
func digits(x uint64, n int) []uint64 {
	list := make([]uint64, n)
	for i := range list {
		list[i] = x % 2
		x /= 2
	}
	return list
}

// worth: the number that digits are.
func worth(list []uint64) uint64 {
	sum := uint64(0)
	for i := len(list) - 1; i >= 0; i-- {
		sum = 2*sum + list[i]
	}
	return sum
}

// value: a number of 32 bits, with its sign.
func value(x uint32) *big.Int {
	n := int64(x)
	if n >= 1<<31 {
		n -= 1 << 32
	}
	return big.NewInt(n)
}

// power: 2 to the power of n.
func power(n int) *big.Int { return new(big.Int).Exp(big.NewInt(2), big.NewInt(int64(n)), nil) }

// fits: whether a number stands in 32 bits with a sign.
func fits(n *big.Int) bool {
	return n.Cmp(big.NewInt(-1<<31)) >= 0 && n.Cmp(big.NewInt(1<<31-1)) <= 0
}

// result: a number's lowest 32 bits, with their N and Z.
func result(n *big.Int) answer {
	r := new(big.Int).Mod(n, power(32)).Uint64()
	return answer{uint32(r), api.Flags{N: r >= 1<<31, Z: r == 0}}
}

// modelAsh: what Ash is to answer. Div of math/big goes towards less where what one divides by is above nothing.
func modelAsh(count int, x uint32) answer {
	if count < 0 {
		return result(new(big.Int).Div(value(x), power(-count)))
	}
	n := new(big.Int).Mul(value(x), power(count))
	w := result(n)
	w.f.V = !fits(n)
	return w
}

// modelRot: what Rot is to answer, each digit count places on, round and round.
func modelRot(count int, x uint32, c bool) answer {
	list := make([]uint64, 32)
	for i, d := range digits(uint64(x), 32) {
		list[(i+count+4*32)%32] = d
	}
	y := worth(list)
	return answer{uint32(y), api.Flags{N: list[31] == 1, Z: y == 0, C: c}}
}

// modelSpan: how many bytes have one of the bits.
func modelSpan(at, size int) int {
	taken := map[int]int{}
	for i := range max(size, 0) {
		taken[(at%8+i)/8]++
	}
	return len(taken)
}

// modelExtract: the field's digits; with a sign its highest one in all places above it.
func modelExtract(row uint64, at, size int, signed bool) uint32 {
	field := digits(row, 64)[at%32 : at%32+size]
	list := make([]uint64, 32)
	copy(list, field)
	for i := size; i < 32 && size > 0 && signed; i++ {
		list[i] = field[size-1]
	}
	return uint32(worth(list))
}

// modelInsert: the row's digits, those of the field being x's.
func modelInsert(row uint64, at, size int, x uint32) uint64 {
	list := digits(row, 64)
	for i, d := range digits(uint64(x), size) {
		list[at%32+i] = d
	}
	return worth(list)
}

// sameAsh, sameRot, sameField fail unless the calls answer what the model does.
func sameAsh(t *testing.T, count int, x uint32) {
	t.Helper()
	if got, want := ash(count, x), modelAsh(count, x); got != want {
		t.Fatalf("Ash(%d, %x): %s, want %s", count, x, got, want)
	}
}

func sameRot(t *testing.T, count int, x uint32, c bool) {
	t.Helper()
	if got, want := rot(count, x, c), modelRot(count, x, c); got != want {
		t.Fatalf("Rot(%d, %x, %v): %s, want %s", count, x, c, got, want)
	}
}

func sameField(t *testing.T, row uint64, at, size int) {
	t.Helper()
	for _, signed := range both {
		if got, want := shift.Extract(row, at, size, signed), modelExtract(row, at, size, signed); got != want {
			t.Fatalf("Extract(%x, %d, %d, %v): %x, want %x", row, at, size, signed, got, want)
		}
	}
}

func sameInsert(t *testing.T, row uint64, at, size int, x uint32) {
	t.Helper()
	if got, want := shift.Insert(row, at, size, x), modelInsert(row, at, size, x); got != want {
		t.Fatalf("Insert(%x, %d, %d, %x): %x, want %x", row, at, size, x, got, want)
	}
}
