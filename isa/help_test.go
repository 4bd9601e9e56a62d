package isa_test

import (
	"fmt"
	"math"
	"slices"
	"strings"
	"testing"

	"camshaft/api"
	"camshaft/isa"
)

// row is an instruction as it is written out: ops are its operands, each as both its letters, with blanks between.
type row struct {
	code  int
	name  string
	class int
	alu   int
	ops   string
}

// opcode: what is to be answered of a row.
func (r row) opcode() api.Opcode {
	var ops []api.Operand
	for _, letters := range strings.Fields(r.ops) {
		ops = append(ops, api.Operand{Access: letters[0], Size: map[byte]int{'b': 1, 'w': 2, 'l': 4}[letters[1]]})
	}
	return api.Opcode{Code: r.code, Name: r.name, Class: r.class, Alu: r.alu, Ops: ops}
}

// equal: whether two instructions are the same; an empty list is what none is.
func equal(a, b api.Opcode) bool {
	return a.Code == b.Code && a.Name == b.Name && a.Class == b.Class && a.Alu == b.Alu && slices.Equal(a.Ops, b.Ops)
}

// nothing: whether an instruction is the zero value.
func nothing(x api.Opcode) bool { return equal(x, api.Opcode{}) }

func tell(x api.Opcode) string {
	text := fmt.Sprintf("%02X %q class %d alu %d", x.Code, x.Name, x.Class, x.Alu)
	for _, op := range x.Ops {
		text += fmt.Sprintf(" %c%d", op.Access, op.Size)
	}
	return text
}

// is fails unless an answer is the instruction wanted, and true.
func is(t *testing.T, call string, got api.Opcode, ok bool, want api.Opcode) {
	t.Helper()
	if !ok || !equal(got, want) {
		t.Errorf("%s: %s, %v, want %s", call, tell(got), ok, tell(want))
	}
}

// noCode fails unless a code has no instruction; noName: a name.
func noCode(t *testing.T, code int) {
	t.Helper()
	if x, ok := isa.Of(code); ok || !nothing(x) {
		t.Errorf("Of(%d): %s, %v", code, tell(x), ok)
	}
}

func noName(t *testing.T, name string) {
	t.Helper()
	if x, ok := isa.Find(name); ok || !nothing(x) {
		t.Errorf("Find(%q): %s, %v", name, tell(x), ok)
	}
}

// beyond: numbers that are no codes, and no classes.
var beyond = []int{-1, -2, -6, -0x80, -0xff, -0x100, -0x101, 0x100, 0x101, 0x180, 0x1ff, 0x200, 0x1000, 1 << 16, 1<<16 + 0x80, 1 << 31, 1<<32 + 1, 1<<32 + 0xd0, -1 << 32, 1<<63 - 0x80, math.MaxInt32, math.MinInt32, math.MaxInt - 1, math.MaxInt, math.MinInt, math.MinInt + 1, math.MinInt + 0x80, math.MinInt + 0xd0}

// instructions: every instruction that Of tells, by its code.
func instructions() []api.Opcode {
	var list []api.Opcode
	for code := range 0x100 {
		if x, ok := isa.Of(code); ok {
			list = append(list, x)
		}
	}
	return list
}
