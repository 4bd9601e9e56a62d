package isa

import (
	"strings"

	"camshaft/alu"
	"camshaft/api"
)

// shape is what an instruction has beside its code and name; ops: its operands, each as the letters of its access and its size.
type shape struct {
	class, alu int
	ops        string
}

// shapeOf: the shape of a code that has an instruction.
func shapeOf(code int) shape {
	switch {
	case code < early:
		return earlyShape(code)
	case code >= late:
		return lateShape(code)
	}
	row, at := place(code)
	if at >= odd {
		return oddShape(code)
	}
	s := familyShape(at)
	s.ops = strings.ReplaceAll(s.ops, "x", "bwl"[row-1:row])
	return s
}

// earlyShape: that of a code below early.
func earlyShape(code int) shape {
	switch code {
	case 0x00:
		return shape{Halt, 0, ""}
	case 0x01:
		return shape{Nop, 0, ""}
	case 0x02:
		return shape{Rei, 0, ""}
	case 0x03:
		return shape{Bpt, 0, ""}
	case 0x04:
		return shape{Ret, 0, ""}
	case 0x05:
		return shape{Rsb, 0, ""}
	case 0x10:
		return shape{Bsb, 0, "bb"}
	case 0x11:
		return shape{Br, 0, "bb"}
	case 0x12, 0x13, 0x14, 0x15, 0x18, 0x19, 0x1a, 0x1b, 0x1c, 0x1d, 0x1e, 0x1f:
		return shape{Bcc, 0, "bb"}
	case 0x16:
		return shape{Jsb, 0, "ab"}
	case 0x17:
		return shape{Jmp, 0, "ab"}
	case 0x28:
		return shape{Movc3, 0, "rwabab"}
	case 0x29:
		return shape{Cmpc3, 0, "rwabab"}
	case 0x2c:
		return shape{Movc5, 0, "rwabrbrwab"}
	case 0x2d:
		return shape{Cmpc5, 0, "rwabrbrwab"}
	case 0x30:
		return shape{Bsb, 0, "bw"}
	case 0x31:
		return shape{Br, 0, "bw"}
	case 0x32:
		return shape{Cvt, 0, "rwwl"}
	case 0x33:
		return shape{Cvt, 0, "rwwb"}
	case 0x3a:
		return shape{Locc, 0, "rbrwab"}
	case 0x3b:
		return shape{Skpc, 0, "rbrwab"}
	case 0x3c:
		return shape{Movz, 0, "rwwl"}
	}
	return shape{}
}

// oddShape: that of a code behind a row's family.
func oddShape(code int) shape {
	switch code {
	case 0x78:
		return shape{Ash, 0, "rbrlwl"}
	case 0x98:
		return shape{Cvt, 0, "rbwl"}
	case 0x99:
		return shape{Cvt, 0, "rbww"}
	case 0x9a:
		return shape{Movz, 0, "rbwl"}
	case 0x9b:
		return shape{Movz, 0, "rbww"}
	case 0x9c:
		return shape{Rot, 0, "rbrlwl"}
	case 0x9e:
		return shape{Mova, 0, "abwl"}
	case 0x9f:
		return shape{Pusha, 0, "ab"}
	case 0xb8:
		return shape{Bis, 0, "rw"}
	case 0xb9:
		return shape{Bic, 0, "rw"}
	case 0xba:
		return shape{Popr, 0, "rw"}
	case 0xbb:
		return shape{Pushr, 0, "rw"}
	case 0xbc:
		return shape{Chmk, 0, "rw"}
	case 0xbe:
		return shape{Mova, 0, "awwl"}
	case 0xbf:
		return shape{Pusha, 0, "aw"}
	case 0xd8:
		return shape{Two, alu.AddC, "rlml"}
	case 0xd9:
		return shape{Two, alu.SubC, "rlml"}
	case 0xda:
		return shape{Mtpr, 0, "rlrl"}
	case 0xdb:
		return shape{Mfpr, 0, "rlwl"}
	case 0xdc:
		return shape{Movpsl, 0, "wl"}
	case 0xdd:
		return shape{Pushl, 0, "rl"}
	case 0xde:
		return shape{Mova, 0, "alwl"}
	case 0xdf:
		return shape{Pusha, 0, "al"}
	}
	return shape{}
}

// lateShape: that of a code from late on.
func lateShape(code int) shape {
	switch code {
	case 0xe0:
		return shape{Bb, 1, "rlvbbb"}
	case 0xe1:
		return shape{Bb, 0, "rlvbbb"}
	case 0xe8:
		return shape{Blb, 1, "rlbb"}
	case 0xe9:
		return shape{Blb, 0, "rlbb"}
	case 0xee:
		return shape{Ext, 1, "rlrbvbwl"}
	case 0xef:
		return shape{Ext, 0, "rlrbvbwl"}
	case 0xf0:
		return shape{Ins, 0, "rlrlrbvb"}
	case 0xf2:
		return shape{Aob, 0, "rlmlbb"}
	case 0xf3:
		return shape{Aob, 1, "rlmlbb"}
	case 0xf4:
		return shape{Sob, 1, "mlbb"}
	case 0xf5:
		return shape{Sob, 0, "mlbb"}
	case 0xf6:
		return shape{Cvt, 0, "rlwb"}
	case 0xf7:
		return shape{Cvt, 0, "rlww"}
	case 0xfb:
		return shape{Calls, 0, "rlab"}
	}
	return shape{}
}

// familyShape: that of a family's instruction, its size an x.
func familyShape(at int) shape {
	switch at {
	case 0x0e:
		return shape{One, alu.Neg, "rxwx"}
	case 0x10:
		return shape{One, alu.Mov, "rxwx"}
	case 0x11:
		return shape{Pair, alu.Cmp, "rxrx"}
	case 0x12:
		return shape{One, alu.Not, "rxwx"}
	case 0x13:
		return shape{Pair, alu.Bit, "rxrx"}
	case 0x14:
		return shape{Own, alu.Clear, "wx"}
	case 0x15:
		return shape{Tst, alu.Test, "rx"}
	case 0x16:
		return shape{Own, alu.Inc, "mx"}
	case 0x17:
		return shape{Own, alu.Dec, "mx"}
	}
	// The others come by twos, the second one with a place of its own for what comes of it.
	op := [...]int{alu.Add, alu.Sub, alu.Mul, alu.Div, alu.Or, alu.Bic, alu.Xor}[at/2]
	if at%2 == 0 {
		return shape{Two, op, "rxmx"}
	}
	return shape{Three, op, "rxrxwx"}
}

// operands: those that a shape's letters tell, in a list of their own.
func operands(letters string) []api.Operand {
	list := make([]api.Operand, len(letters)/2)
	for i := range list {
		list[i] = api.Operand{Access: letters[2*i], Size: size(letters[2*i+1])}
	}
	return list
}

// size: the bytes that a size's letter tells.
func size(letter byte) int {
	switch letter {
	case 'b':
		return 1
	case 'w':
		return 2
	}
	return 4
}
