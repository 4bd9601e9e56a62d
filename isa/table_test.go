package isa_test

import (
	"fmt"
	"math"
	"testing"

	"camshaft/alu"
	"camshaft/api"
	"camshaft/isa"
)

// P10.1, by hand: what is written out here.

// table: the chapter's list, line by line, and the families size by size.
var table = []row{
	{0x00, "HALT", isa.Halt, 0, ""},
	{0x01, "NOP", isa.Nop, 0, ""},
	{0x02, "REI", isa.Rei, 0, ""},
	{0x03, "BPT", isa.Bpt, 0, ""},
	{0x04, "RET", isa.Ret, 0, ""},
	{0x05, "RSB", isa.Rsb, 0, ""},

	{0x10, "BSBB", isa.Bsb, 0, "bb"},
	{0x30, "BSBW", isa.Bsb, 0, "bw"},
	{0x11, "BRB", isa.Br, 0, "bb"},
	{0x31, "BRW", isa.Br, 0, "bw"},
	{0x16, "JSB", isa.Jsb, 0, "ab"},
	{0x17, "JMP", isa.Jmp, 0, "ab"},

	{0x12, "BNEQ", isa.Bcc, 0, "bb"},
	{0x13, "BEQL", isa.Bcc, 0, "bb"},
	{0x14, "BGTR", isa.Bcc, 0, "bb"},
	{0x15, "BLEQ", isa.Bcc, 0, "bb"},
	{0x18, "BGEQ", isa.Bcc, 0, "bb"},
	{0x19, "BLSS", isa.Bcc, 0, "bb"},
	{0x1a, "BGTRU", isa.Bcc, 0, "bb"},
	{0x1b, "BLEQU", isa.Bcc, 0, "bb"},
	{0x1c, "BVC", isa.Bcc, 0, "bb"},
	{0x1d, "BVS", isa.Bcc, 0, "bb"},
	{0x1e, "BCC", isa.Bcc, 0, "bb"},
	{0x1f, "BCS", isa.Bcc, 0, "bb"},

	{0x28, "MOVC3", isa.Movc3, 0, "rw ab ab"},
	{0x29, "CMPC3", isa.Cmpc3, 0, "rw ab ab"},
	{0x2c, "MOVC5", isa.Movc5, 0, "rw ab rb rw ab"},
	{0x2d, "CMPC5", isa.Cmpc5, 0, "rw ab rb rw ab"},
	{0x3a, "LOCC", isa.Locc, 0, "rb rw ab"},
	{0x3b, "SKPC", isa.Skpc, 0, "rb rw ab"},

	{0x32, "CVTWL", isa.Cvt, 0, "rw wl"},
	{0x33, "CVTWB", isa.Cvt, 0, "rw wb"},
	{0x98, "CVTBL", isa.Cvt, 0, "rb wl"},
	{0x99, "CVTBW", isa.Cvt, 0, "rb ww"},
	{0xf6, "CVTLB", isa.Cvt, 0, "rl wb"},
	{0xf7, "CVTLW", isa.Cvt, 0, "rl ww"},
	{0x3c, "MOVZWL", isa.Movz, 0, "rw wl"},
	{0x9a, "MOVZBL", isa.Movz, 0, "rb wl"},
	{0x9b, "MOVZBW", isa.Movz, 0, "rb ww"},

	{0x78, "ASHL", isa.Ash, 0, "rb rl wl"},
	{0x9c, "ROTL", isa.Rot, 0, "rb rl wl"},

	{0x9e, "MOVAB", isa.Mova, 0, "ab wl"},
	{0xbe, "MOVAW", isa.Mova, 0, "aw wl"},
	{0xde, "MOVAL", isa.Mova, 0, "al wl"},
	{0x9f, "PUSHAB", isa.Pusha, 0, "ab"},
	{0xbf, "PUSHAW", isa.Pusha, 0, "aw"},
	{0xdf, "PUSHAL", isa.Pusha, 0, "al"},
	{0xdd, "PUSHL", isa.Pushl, 0, "rl"},

	{0xb8, "BISPSW", isa.Bis, 0, "rw"},
	{0xb9, "BICPSW", isa.Bic, 0, "rw"},
	{0xba, "POPR", isa.Popr, 0, "rw"},
	{0xbb, "PUSHR", isa.Pushr, 0, "rw"},
	{0xbc, "CHMK", isa.Chmk, 0, "rw"},
	{0xda, "MTPR", isa.Mtpr, 0, "rl rl"},
	{0xdb, "MFPR", isa.Mfpr, 0, "rl wl"},
	{0xdc, "MOVPSL", isa.Movpsl, 0, "wl"},

	{0xd8, "ADWC", isa.Two, alu.AddC, "rl ml"},
	{0xd9, "SBWC", isa.Two, alu.SubC, "rl ml"},

	{0xe0, "BBS", isa.Bb, 1, "rl vb bb"},
	{0xe1, "BBC", isa.Bb, 0, "rl vb bb"},
	{0xe8, "BLBS", isa.Blb, 1, "rl bb"},
	{0xe9, "BLBC", isa.Blb, 0, "rl bb"},

	{0xee, "EXTV", isa.Ext, 1, "rl rb vb wl"},
	{0xef, "EXTZV", isa.Ext, 0, "rl rb vb wl"},
	{0xf0, "INSV", isa.Ins, 0, "rl rl rb vb"},

	{0xf2, "AOBLSS", isa.Aob, 0, "rl ml bb"},
	{0xf3, "AOBLEQ", isa.Aob, 1, "rl ml bb"},
	{0xf4, "SOBGEQ", isa.Sob, 1, "ml bb"},
	{0xf5, "SOBGTR", isa.Sob, 0, "ml bb"},
	{0xfb, "CALLS", isa.Calls, 0, "rl ab"},

	{0x80, "ADDB2", isa.Two, alu.Add, "rb mb"},
	{0x81, "ADDB3", isa.Three, alu.Add, "rb rb wb"},
	{0x82, "SUBB2", isa.Two, alu.Sub, "rb mb"},
	{0x83, "SUBB3", isa.Three, alu.Sub, "rb rb wb"},
	{0x84, "MULB2", isa.Two, alu.Mul, "rb mb"},
	{0x85, "MULB3", isa.Three, alu.Mul, "rb rb wb"},
	{0x86, "DIVB2", isa.Two, alu.Div, "rb mb"},
	{0x87, "DIVB3", isa.Three, alu.Div, "rb rb wb"},
	{0x88, "BISB2", isa.Two, alu.Or, "rb mb"},
	{0x89, "BISB3", isa.Three, alu.Or, "rb rb wb"},
	{0x8a, "BICB2", isa.Two, alu.Bic, "rb mb"},
	{0x8b, "BICB3", isa.Three, alu.Bic, "rb rb wb"},
	{0x8c, "XORB2", isa.Two, alu.Xor, "rb mb"},
	{0x8d, "XORB3", isa.Three, alu.Xor, "rb rb wb"},
	{0x8e, "MNEGB", isa.One, alu.Neg, "rb wb"},
	{0x90, "MOVB", isa.One, alu.Mov, "rb wb"},
	{0x91, "CMPB", isa.Pair, alu.Cmp, "rb rb"},
	{0x92, "MCOMB", isa.One, alu.Not, "rb wb"},
	{0x93, "BITB", isa.Pair, alu.Bit, "rb rb"},
	{0x94, "CLRB", isa.Own, alu.Clear, "wb"},
	{0x95, "TSTB", isa.Tst, alu.Test, "rb"},
	{0x96, "INCB", isa.Own, alu.Inc, "mb"},
	{0x97, "DECB", isa.Own, alu.Dec, "mb"},

	{0xa0, "ADDW2", isa.Two, alu.Add, "rw mw"},
	{0xa1, "ADDW3", isa.Three, alu.Add, "rw rw ww"},
	{0xa2, "SUBW2", isa.Two, alu.Sub, "rw mw"},
	{0xa3, "SUBW3", isa.Three, alu.Sub, "rw rw ww"},
	{0xa4, "MULW2", isa.Two, alu.Mul, "rw mw"},
	{0xa5, "MULW3", isa.Three, alu.Mul, "rw rw ww"},
	{0xa6, "DIVW2", isa.Two, alu.Div, "rw mw"},
	{0xa7, "DIVW3", isa.Three, alu.Div, "rw rw ww"},
	{0xa8, "BISW2", isa.Two, alu.Or, "rw mw"},
	{0xa9, "BISW3", isa.Three, alu.Or, "rw rw ww"},
	{0xaa, "BICW2", isa.Two, alu.Bic, "rw mw"},
	{0xab, "BICW3", isa.Three, alu.Bic, "rw rw ww"},
	{0xac, "XORW2", isa.Two, alu.Xor, "rw mw"},
	{0xad, "XORW3", isa.Three, alu.Xor, "rw rw ww"},
	{0xae, "MNEGW", isa.One, alu.Neg, "rw ww"},
	{0xb0, "MOVW", isa.One, alu.Mov, "rw ww"},
	{0xb1, "CMPW", isa.Pair, alu.Cmp, "rw rw"},
	{0xb2, "MCOMW", isa.One, alu.Not, "rw ww"},
	{0xb3, "BITW", isa.Pair, alu.Bit, "rw rw"},
	{0xb4, "CLRW", isa.Own, alu.Clear, "ww"},
	{0xb5, "TSTW", isa.Tst, alu.Test, "rw"},
	{0xb6, "INCW", isa.Own, alu.Inc, "mw"},
	{0xb7, "DECW", isa.Own, alu.Dec, "mw"},

	{0xc0, "ADDL2", isa.Two, alu.Add, "rl ml"},
	{0xc1, "ADDL3", isa.Three, alu.Add, "rl rl wl"},
	{0xc2, "SUBL2", isa.Two, alu.Sub, "rl ml"},
	{0xc3, "SUBL3", isa.Three, alu.Sub, "rl rl wl"},
	{0xc4, "MULL2", isa.Two, alu.Mul, "rl ml"},
	{0xc5, "MULL3", isa.Three, alu.Mul, "rl rl wl"},
	{0xc6, "DIVL2", isa.Two, alu.Div, "rl ml"},
	{0xc7, "DIVL3", isa.Three, alu.Div, "rl rl wl"},
	{0xc8, "BISL2", isa.Two, alu.Or, "rl ml"},
	{0xc9, "BISL3", isa.Three, alu.Or, "rl rl wl"},
	{0xca, "BICL2", isa.Two, alu.Bic, "rl ml"},
	{0xcb, "BICL3", isa.Three, alu.Bic, "rl rl wl"},
	{0xcc, "XORL2", isa.Two, alu.Xor, "rl ml"},
	{0xcd, "XORL3", isa.Three, alu.Xor, "rl rl wl"},
	{0xce, "MNEGL", isa.One, alu.Neg, "rl wl"},
	{0xd0, "MOVL", isa.One, alu.Mov, "rl wl"},
	{0xd1, "CMPL", isa.Pair, alu.Cmp, "rl rl"},
	{0xd2, "MCOML", isa.One, alu.Not, "rl wl"},
	{0xd3, "BITL", isa.Pair, alu.Bit, "rl rl"},
	{0xd4, "CLRL", isa.Own, alu.Clear, "wl"},
	{0xd5, "TSTL", isa.Tst, alu.Test, "rl"},
	{0xd6, "INCL", isa.Own, alu.Inc, "ml"},
	{0xd7, "DECL", isa.Own, alu.Dec, "ml"},
}

// The classes' numbers, in the order in which the chapter lists them.
func TestClasses(t *testing.T) {
	list := []int{
		isa.Halt, isa.Nop, isa.Rei, isa.Bpt, isa.Ret, isa.Rsb, isa.Bsb, isa.Br, isa.Bcc, isa.Jsb, isa.Jmp,
		isa.One, isa.Own, isa.Two, isa.Three, isa.Tst, isa.Pair, isa.Cvt, isa.Movz, isa.Mova, isa.Pusha, isa.Pushl,
		isa.Ash, isa.Rot, isa.Blb, isa.Bb, isa.Aob, isa.Sob, isa.Ext, isa.Ins, isa.Calls, isa.Pushr, isa.Popr,
		isa.Movpsl, isa.Bis, isa.Bic, isa.Chmk, isa.Mtpr, isa.Mfpr,
		isa.Movc3, isa.Movc5, isa.Cmpc3, isa.Cmpc5, isa.Locc, isa.Skpc,
	}
	if len(list) != 45 {
		t.Fatalf("%d classes", len(list))
	}
	for i, class := range list {
		if class != i+1 {
			t.Errorf("class %d has the number %d", i+1, class)
		}
	}
}

// The table has each code once, and as many as there are.
func TestTable(t *testing.T) {
	seen := map[int]bool{}
	for _, r := range table {
		if seen[r.code] {
			t.Errorf("%02X is there twice", r.code)
		}
		seen[r.code] = true
	}
	if len(table) != 139 {
		t.Errorf("%d instructions", len(table))
	}
}

// Of every code from 0 to FF: what the table says, or nothing.
func TestOf(t *testing.T) {
	rows := map[int]row{}
	for _, r := range table {
		rows[r.code] = r
	}
	for code := range 0x100 {
		if r, ok := rows[code]; ok {
			x, ok := isa.Of(code)
			is(t, fmt.Sprintf("Of(%02X)", code), x, ok, r.opcode())
		} else {
			noCode(t, code)
		}
	}
}

func TestFind(t *testing.T) {
	for _, r := range table {
		x, ok := isa.Find(r.name)
		is(t, fmt.Sprintf("Find(%q)", r.name), x, ok, r.opcode())
	}
}

// Codes that are none: beyond a byte, and an instruction's, plus or less a byte's numbers.
func TestNoCode(t *testing.T) {
	for _, code := range beyond {
		noCode(t, code)
	}
	for _, r := range table {
		for _, step := range []int{0x100, 0x200, 0x10000, 1 << 32, math.MinInt} {
			noCode(t, r.code+step)
			noCode(t, r.code-step)
		}
	}
}

// Names that are none, in themselves.
func TestNoName(t *testing.T) {
	for _, name := range []string{
		"", " ", "\x00", "2", "3", "B", "W", "L", "X", "x",
		"ADD", "ADD2", "ADD3", "SUB2", "SUB3", "MUL2", "MUL3", "DIV2", "DIV3", "BIS2", "BIS3", "BIC2", "BIC3", "XOR2", "XOR3",
		"MNEG", "MOV", "MCOM", "CMP", "BIT", "CLR", "TST", "INC", "DEC",
		"ADD2B", "ADD2W", "ADD2L", "ADD3L", "BADD2", "LADD3", "XOR3W", "MNEG2", "MNEGB2", "BMNEG", "LMOV", "WCLR", "MOVL2", "CMPL3", "DECL2",
		"ADDX2", "MOVX", "ADDQ2", "MOVQ", "ADDL4", "ADDL1", "ADDLL2", "ADDL22",
		"MOVC", "MOVC2", "MOVC4", "CMPC", "BSB", "BR", "ASH", "ROT", "CVT", "CVTWW", "CVTLL", "MOVZ", "MOVZLW", "MOVA", "PUSHA", "PUSH", "PUSHB", "BIS", "BIC",
		"AOB", "SOB", "AOBGEQ", "SOBLSS", "EXT", "INS", "CALL", "CALLG", "BGEQU", "BLSSU", "BNEQU", "BEQLU", "ASHQ", "HLT", "INSQUE",
		"Halt", "Two", "ADDL2\x00", "\x00HALT", "HALT\n", "HALT,NOP", "HALTNOP", "ÄDDL2",
	} {
		noName(t, name)
	}
}

// String of each class, and of numbers that are none.
func TestString(t *testing.T) {
	for class := -300; class <= 600; class++ {
		want := 40 <= class && class <= 45
		if got := isa.String(class); got != want {
			t.Errorf("String(%d): %v", class, got)
		}
	}
	for _, class := range []int{isa.Movc3, isa.Movc5, isa.Cmpc3, isa.Cmpc5, isa.Locc, isa.Skpc} {
		if !isa.String(class) {
			t.Errorf("String(%d): false", class)
		}
	}
	for _, class := range append([]int{1<<32 + 40, 1<<32 + 45, math.MinInt + 40, math.MinInt + 45, -40, -45}, beyond...) {
		if isa.String(class) {
			t.Errorf("String(%d): true", class)
		}
	}
}

// The chapter's examples: C1 is ADDL3; 80 is ADDB2, D0 MOVL.
func TestExample(t *testing.T) {
	x, ok := isa.Of(0xc1)
	want := api.Opcode{Code: 0xc1, Name: "ADDL3", Class: isa.Three, Alu: alu.Add, Ops: []api.Operand{{Access: 'r', Size: 4}, {Access: 'r', Size: 4}, {Access: 'w', Size: 4}}}
	is(t, "Of(C1)", x, ok, want)
	for code, name := range map[int]string{0x80: "ADDB2", 0xd0: "MOVL"} {
		if x, ok := isa.Of(code); !ok || x.Name != name {
			t.Errorf("Of(%02X): %s, %v", code, tell(x), ok)
		}
	}
}
