package asm_test

import (
	"strings"
	"testing"

	"camshaft/asm"
)

// P12.1, Assemble, by hand: what is written out here.

// row is a text, and the bytes that it is.
type row struct{ text, b string }

func allGood(t *testing.T, rows []row) {
	t.Helper()
	for _, r := range rows {
		good(t, r.text, r.b)
	}
}

// The chapter's example, and how many bytes there are at most.
func TestExample(t *testing.T) {
	good(t, "MOVL #5, -(SP)", "d0 05 7e")
	if asm.MaxBytes != 65536 {
		t.Errorf("MaxBytes is %d", asm.MaxBytes)
	}
}

// A register alone, by number and by name.
func TestRegister(t *testing.T) {
	allGood(t, []row{
		{"TSTL R0", "d5 50"}, {"TSTL R1", "d5 51"}, {"TSTL R2", "d5 52"}, {"TSTL R3", "d5 53"}, {"TSTL R4", "d5 54"},
		{"TSTL R5", "d5 55"}, {"TSTL R6", "d5 56"}, {"TSTL R7", "d5 57"}, {"TSTL R8", "d5 58"}, {"TSTL R9", "d5 59"},
		{"TSTL R10", "d5 5a"}, {"TSTL R11", "d5 5b"}, {"TSTL R12", "d5 5c"}, {"TSTL R13", "d5 5d"}, {"TSTL R14", "d5 5e"},
		{"TSTL AP", "d5 5c"}, {"TSTL FP", "d5 5d"}, {"TSTL SP", "d5 5e"},
		{"CLRB R3", "94 53"}, {"INCW SP", "b6 5e"}, {"BBS R1, R2, 0", "e0 51 52 00"}, {"MOVL R1, R2", "d0 51 52"},
	})
	for _, text := range []string{
		"TSTL R15", "TSTL PC", "CLRL PC", "INCL R15", "PUSHAB R1", "MOVAL SP, R1", "BBS R1, PC, 0",
		"TSTL R16", "TSTL R00", "TSTL R01", "TSTL R010", "TSTL R-1", "TSTL R0x1", "TSTL R", "TSTL r1", "TSTL ap", "TSTL Ap", "TSTL RR1", "TSTL R1R", "TSTL R99", "TSTL R4294967297", "TSTL 1", "TSTL IP", "TSTL what",
	} {
		badNow(t, text)
	}
}

// The ways with a register in brackets.
func TestBrackets(t *testing.T) {
	allGood(t, []row{
		{"TSTL (R1)", "d5 61"}, {"TSTL (R14)", "d5 6e"}, {"TSTL (AP)", "d5 6c"}, {"TSTL (FP)", "d5 6d"}, {"TSTL (SP)", "d5 6e"},
		{"TSTL -(R1)", "d5 71"}, {"TSTL -(R0)", "d5 70"}, {"TSTL -(AP)", "d5 7c"}, {"TSTL -(SP)", "d5 7e"},
		{"TSTL (R1)+", "d5 81"}, {"TSTL (R13)+", "d5 8d"}, {"TSTL (FP)+", "d5 8d"}, {"TSTL (SP)+", "d5 8e"},
		{"TSTL @(R1)+", "d5 91"}, {"TSTL @(R10)+", "d5 9a"}, {"TSTL @(AP)+", "d5 9c"}, {"TSTL @(SP)+", "d5 9e"},
		{"TSTL 5(R1)", "d5 a1 05"}, {"TSTL 0(R1)", "d5 a1 00"}, {"TSTL -4(FP)", "d5 ad fc"}, {"TSTL 0x10(PC)", "d5 af 10"}, {"TSTL -0(R15)", "d5 af 00"},
		{"TSTL @5(R1)", "d5 b1 05"}, {"TSTL @0(R1)", "d5 b1 00"}, {"TSTL @-4(FP)", "d5 bd fc"}, {"TSTL @-0x10(PC)", "d5 bf f0"}, {"TSTL @1(R15)", "d5 bf 01"},
		{"CLRB (R1)+", "94 81"}, {"INCW -(R2)", "b6 72"}, {"PUSHAL @7(SP)", "df be 07"}, {"INSV R0, R1, R2, (R3)", "f0 50 51 52 63"},
	})
	for _, text := range []string{
		"TSTL (PC)", "TSTL (R15)", "TSTL -(PC)", "TSTL -(R15)", "TSTL (PC)+", "TSTL (R15)+", "TSTL @(PC)+", "TSTL @(R15)+",
		"TSTL @(R1)", "TSTL @R1", "TSTL @-(R1)", "TSTL -(R1)+", "TSTL 5(R1)+", "TSTL @5(R1)+", "TSTL 0(R1)+", "TSTL +(R1)", "TSTL (R1)-", "TSTL (R1)++", "TSTL --(R1)", "TSTL R1+", "TSTL -R1", "TSTL @", "TSTL +", "TSTL -", "TSTL @+", "TSTL @@(R1)+", "TSTL (@R1)+",
		"TSTL ()", "TSTL ()+", "TSTL -()", "TSTL 5()", "TSTL (5)", "TSTL (x)", "TSTL (R16)", "TSTL (R01)", "TSTL 5(R16)", "TSTL (R1", "TSTL R1)", "TSTL ((R1))", "TSTL (R1))", "TSTL ((R1)", "TSTL )R1(", "TSTL (R1)5", "TSTL (R1)(R2)", "TSTL 5(5)", "TSTL 5(R1", "TSTL 5R1)", "TSTL @5(R1", "TSTL (R1)x",
		"TSTL x(R1)", "TSTL @x(R1)", "TSTL R1(R2)", "TSTL --5(R1)", "TSTL +5(R1)", "TSTL 5-(R1)", "TSTL 0x(R1)", "TSTL 4294967296(R1)", "TSTL -2147483649(R1)", "TSTL @4294967296(R1)",
		"TSTL 5 (R1)", "TSTL ( R1 )", "TSTL (R1 )", "TSTL ( R1)", "TSTL (R1) +", "TSTL - (R1)", "TSTL @ (R1)+", "TSTL @ 5(R1)", "TSTL - 5(R1)", "TSTL (R1)\t+", "TSTL (R\t1)",
	} {
		badNow(t, text)
	}
	badNow(t, "x: TSTL x(R1)")
	badNow(t, "x: TSTL x")
}

// A displacement takes as few bytes as it can.
func TestNear(t *testing.T) {
	allGood(t, []row{
		{"TSTL 127(R2)", "d5 a2 7f"}, {"TSTL -128(R2)", "d5 a2 80"}, {"TSTL 4294967295(R2)", "d5 a2 ff"}, {"TSTL 0xffffff80(R2)", "d5 a2 80"},
		{"TSTL 128(R2)", "d5 c2 80 00"}, {"TSTL -129(R2)", "d5 c2 7f ff"}, {"TSTL 32767(R2)", "d5 c2 ff 7f"}, {"TSTL -32768(R2)", "d5 c2 00 80"}, {"TSTL 0xffff8000(PC)", "d5 cf 00 80"},
		{"TSTL 32768(R2)", "d5 e2 00 80 00 00"}, {"TSTL -32769(R2)", "d5 e2 ff 7f ff ff"}, {"TSTL 2147483647(R2)", "d5 e2 ff ff ff 7f"}, {"TSTL -2147483648(R2)", "d5 e2 00 00 00 80"}, {"TSTL 0x80000000(R2)", "d5 e2 00 00 00 80"},
		{"TSTL @127(R2)", "d5 b2 7f"}, {"TSTL @-128(R2)", "d5 b2 80"}, {"TSTL @128(R2)", "d5 d2 80 00"}, {"TSTL @-129(R2)", "d5 d2 7f ff"}, {"TSTL @32767(R2)", "d5 d2 ff 7f"}, {"TSTL @-32768(R2)", "d5 d2 00 80"},
		{"TSTL @32768(R2)", "d5 f2 00 80 00 00"}, {"TSTL @-32769(R2)", "d5 f2 ff 7f ff ff"}, {"TSTL @4294967295(R2)", "d5 b2 ff"},
	})
}

// @# and #, with numbers.
func TestValues(t *testing.T) {
	allGood(t, []row{
		{"TSTL @#5", "d5 9f 05 00 00 00"}, {"TSTL @#0", "d5 9f 00 00 00 00"}, {"TSTB @#-1", "95 9f ff ff ff ff"}, {"CLRW @#0x12345678", "b4 9f 78 56 34 12"}, {"PUSHAB @#4294967295", "9f 9f ff ff ff ff"}, {"BBC #1, @#3, 4", "e1 01 9f 03 00 00 00 04"},
		{"TSTL #0", "d5 00"}, {"TSTL #-0", "d5 00"}, {"TSTL #1", "d5 01"}, {"TSTL #5", "d5 05"}, {"TSTL #0x20", "d5 20"}, {"TSTL #63", "d5 3f"}, {"TSTW #0x3f", "b5 3f"}, {"TSTB #00063", "95 3f"},
		{"TSTL #64", "d5 8f 40 00 00 00"}, {"TSTW #64", "b5 8f 40 00"}, {"TSTB #64", "95 8f 40"}, {"TSTL #-1", "d5 8f ff ff ff ff"}, {"TSTW #-1", "b5 8f ff ff"}, {"TSTB #-1", "95 8f ff"}, {"TSTB #-64", "95 8f c0"},
		{"TSTB #127", "95 8f 7f"}, {"TSTB #-128", "95 8f 80"}, {"TSTB #4294967295", "95 8f ff"}, {"TSTB #0xffffff80", "95 8f 80"},
		{"TSTW #32767", "b5 8f ff 7f"}, {"TSTW #-32768", "b5 8f 00 80"}, {"TSTW #128", "b5 8f 80 00"}, {"TSTW #4294967295", "b5 8f ff ff"},
		{"TSTL #2147483647", "d5 8f ff ff ff 7f"}, {"TSTL #2147483648", "d5 8f 00 00 00 80"}, {"TSTL #-2147483648", "d5 8f 00 00 00 80"}, {"TSTL #4294967295", "d5 8f ff ff ff ff"}, {"TSTL #65535", "d5 8f ff ff 00 00"},
	})
	for _, text := range []string{
		"TSTB #128", "TSTB #-129", "TSTB #255", "TSTB #256", "TSTB #4294967167", "TSTB #65535", "TSTW #32768", "TSTW #-32769", "TSTW #65535", "TSTW #65536", "TSTW #4294934527",
		"TSTL #4294967296", "TSTL #-2147483649", "TSTL @#4294967296", "TSTL @#-2147483649", "TSTL #", "TSTL @#", "TSTL #-", "TSTL #0x", "TSTL ##5", "TSTL @@#5", "TSTL #@5", "TSTL @#@5", "TSTL @##5", "TSTL #(R1)", "TSTL @#(R1)", "TSTL #5(R1)", "TSTL @#5(R1)", "TSTL @#5+", "TSTL #5+", "TSTL 5#", "TSTL #+5", "TSTL #1x", "TSTL @#1x", "TSTL #.x",
		"TSTL # 5", "TSTL @ #5", "TSTL @# 5", "TSTL #- 5", "TSTL #1 2",
		"CLRL #5", "CLRL #64", "CLRL #-1", "CLRL #x", "INCL #5", "INCL #64", "INCL #x", "PUSHAL #5", "PUSHAL #64", "PUSHAL #x", "BBS R1, #5, 0", "BBS R1, #64, 0", "BBS R1, #x, 0", "MOVL #5, #6", "MOVL R1, #64", "ADDL2 #5, #6",
	} {
		badNow(t, text)
	}
}

// With an index.
func TestIndex(t *testing.T) {
	allGood(t, []row{
		{"TSTL (R1)[R2]", "d5 42 61"}, {"TSTL -(R1)[R2]", "d5 42 71"}, {"TSTL (R1)+[R2]", "d5 42 81"}, {"TSTL @(R1)+[R2]", "d5 42 91"},
		{"TSTL 5(R1)[R2]", "d5 42 a1 05"}, {"TSTL 500(R1)[R2]", "d5 42 c1 f4 01"}, {"TSTL -50000(R1)[R2]", "d5 42 e1 b0 3c ff ff"},
		{"TSTL @5(R1)[R2]", "d5 42 b1 05"}, {"TSTL @500(R1)[R2]", "d5 42 d1 f4 01"}, {"TSTL @#5[R2]", "d5 42 9f 05 00 00 00"},
		{"TSTL (R1)[R0]", "d5 40 61"}, {"TSTL (R1)[R14]", "d5 4e 61"}, {"TSTL (R1)[AP]", "d5 4c 61"}, {"TSTL (R1)[FP]", "d5 4d 61"}, {"TSTL (SP)[SP]", "d5 4e 6e"}, {"TSTL 4(PC)[R9]", "d5 49 af 04"},
		{"CLRW (R1)[R2]", "b4 42 61"}, {"INCB @(R1)+[R2]", "96 42 91"}, {"PUSHAL -(AP)[FP]", "df 4d 7c"}, {"BBS R1, 8(R2)[R3], -1", "e0 51 43 a2 08 ff"},
		{"x: TSTL @#x[R2]", "d5 42 9f 00 00 00 00"}, {"TSTL @#x[R2]\nx:", "d5 42 9f 07 00 00 00"},
	})
	for _, text := range []string{
		"TSTL R1[R2]", "TSTL #5[R2]", "TSTL #64[R2]", "TSTL #x[R2]", "TSTL (R1)[PC]", "TSTL (R1)[R15]", "TSTL @#x[PC]", "TSTL (PC)[R1]", "TSTL (PC)+[R1]", "TSTL -(PC)[R1]", "TSTL @(PC)+[R1]",
		"TSTL (R1)[R16]", "TSTL (R1)[R01]", "TSTL (R1)[]", "TSTL (R1)[2]", "TSTL (R1)[x]", "TSTL (R1)[(R2)]", "TSTL (R1)[R2", "TSTL (R1)R2]", "TSTL (R1)]", "TSTL (R1)[", "TSTL (R1)[R2]+", "TSTL [R2](R1)", "TSTL [R2]", "TSTL []", "TSTL ]", "TSTL (R1)[R2][R3]", "TSTL (R1)[R2]]", "TSTL (R1)[[R2]", "TSTL (R1)[[R2]]", "TSTL (R1)][R2]",
		"TSTL (R1) [R2]", "TSTL (R1)[ R2 ]", "TSTL (R1)[R2 ]", "TSTL @#5 [R2]", "BRB 4[R2]", "BRB x[R2]", "BRB [R2]",
	} {
		badNow(t, text)
	}
}

// Displacements as numbers, of both sizes.
func TestBranchNumbers(t *testing.T) {
	allGood(t, []row{
		{"BRB 0", "11 00"}, {"BRB 1", "11 01"}, {"BRB -1", "11 ff"}, {"BRB 127", "11 7f"}, {"BRB -128", "11 80"}, {"BRB 4294967295", "11 ff"}, {"BRB 0xffffff80", "11 80"}, {"BRB -0x80", "11 80"},
		{"BRW 0", "31 00 00"}, {"BRW 127", "31 7f 00"}, {"BRW 128", "31 80 00"}, {"BRW -1", "31 ff ff"}, {"BRW 32767", "31 ff 7f"}, {"BRW -32768", "31 00 80"}, {"BRW 0xffff8000", "31 00 80"},
		{"NOP\nBRB 5", "01 11 05"}, {"BSBB 7", "10 07"}, {"BSBW 7", "30 07 00"}, {"BEQL -2", "13 fe"}, {"BLBS R1, 9", "e8 51 09"}, {"AOBLSS #5, R1, -6", "f2 05 51 fa"}, {"SOBGTR (R1)+, 3", "f5 81 03"},
	})
	for _, text := range []string{
		"BRB 128", "BRB -129", "BRB 255", "BRB 256", "BRB 65535", "BRB 4294967167", "BRB 4294967296", "BRW 32768", "BRW -32769", "BRW 65535", "BRW 65536", "BRW 4294934527",
		"BRB #5", "BRB @#5", "BRB (R1)", "BRB 5(R1)", "BRB #x", "BRB @x", "BRB -x", "BRB +5", "BRB x+1", "BRB 1x", "BRB -", "BRB .", "BRB x y", "BRB x:", "SOBGTR R1, #5",
	} {
		badNow(t, text)
	}
}

// Displacements as labels, ahead and behind, at both ends of what fits and one beyond.
func TestBranchLabels(t *testing.T) {
	allGood(t, []row{
		{"x: BRB x", "11 fe"}, {"BRB x\nx:", "11 00"}, {"BRB x\nNOP\nx:", "11 01 01"}, {"NOP\nx: BRB x", "01 11 fe"}, {"x: NOP\nBRB x", "01 11 fd"},
		{"x: BRW x", "31 fd ff"}, {"BRW x\nx:", "31 00 00"}, {"BRW x\nNOP\nNOP\nx: NOP", "31 02 00 01 01 01"},
		{"x: SOBGTR R1, x", "f5 51 fd"}, {"x: AOBLEQ #64, (R1)[R2], x", "f3 8f 40 00 00 00 42 61 f7"}, {"x: BBS #3, @#x, x", "e0 03 9f 00 00 00 00 f8"}, {"BSBB x\nBSBW x\nx: RSB", "10 03 30 00 00 05"},
		{"x:\ny: BRB y\nBRB x", "11 fe 11 fc"}, {"R16: BRB R16", "11 fe"}, {"NOP: BRB NOP", "11 fe"}, {"r1: BRB r1", "11 fe"}, {"R00: BRB R00", "11 fe"}, {"x1: BRB x1\nx: BRB x", "11 fe 11 fe"},
	})
	for _, c := range []struct {
		name         string
		code, length int
		most         int
	}{{"BRB", 0x11, 2, 127}, {"BRW", 0x31, 3, 32767}} {
		ahead := func(n int) string { return c.name + " x\n" + spaces(n) + "x:" }
		behind := func(n int) string { return "x: " + spaces(n) + c.name + " x" }
		front, back := []byte{byte(c.code), byte(c.most), byte(c.most >> 8)}, []byte{byte(c.code), byte(^c.most), byte(^c.most >> 8)}
		sameProgram(t, ahead(c.most), whole(join(front[:c.length], make([]byte, c.most))))
		least := c.most + 1 - c.length
		sameProgram(t, behind(least), whole(join(make([]byte, least), back[:c.length])))
		bad(t, ahead(c.most+1), 1)
		bad(t, behind(least+1), 1+spaceLines(least+1))
		bad(t, ahead(c.most+1)+"\nwhat", 3+spaceLines(c.most+1))
	}
}

// # and @# with labels: of each size, at both ends of what fits and one beyond; never a literal.
func TestValueLabels(t *testing.T) {
	allGood(t, []row{
		{"x: TSTL #x", "d5 8f 00 00 00 00"}, {"x: TSTW #x", "b5 8f 00 00"}, {"x: TSTB #x", "95 8f 00"}, {"TSTB #x\nx:", "95 8f 03"}, {"TSTL #x\nx:", "d5 8f 06 00 00 00"}, {".space 5\nx: TSTL #x", "00 00 00 00 00 d5 8f 05 00 00 00"},
		{"x: TSTL @#x", "d5 9f 00 00 00 00"}, {"TSTB @#x\nx:", "95 9f 06 00 00 00"}, {"NOP\nx: CLRW @#x", "01 b4 9f 01 00 00 00"}, {"NOP\nMOVAB @#x, @#y\nx:\nNOP\ny:", "01 9e 9f 0c 00 00 00 9f 0d 00 00 00 01"},
		{"NOP\nx: MOVL #x, @#x", "01 d0 8f 01 00 00 00 9f 01 00 00 00"}, {"R16: TSTB #R16", "95 8f 00"}, {"_: TSTB #_", "95 8f 00"},
	})
	at := func(n int, text string) string { return spaces(n) + "x: " + text }
	for _, c := range []struct {
		place int
		text  string
		want  string
	}{
		{63, "TSTB #x", "95 8f 3f"}, {64, "TSTB #x", "95 8f 40"}, {127, "TSTB #x", "95 8f 7f"}, {128, "TSTW #x", "b5 8f 80 00"}, {32767, "TSTW #x", "b5 8f ff 7f"}, {32768, "TSTL #x", "d5 8f 00 80 00 00"}, {65530, "TSTL #x", "d5 8f fa ff 00 00"}, {65530, "TSTB @#x", "95 9f fa ff 00 00"},
	} {
		sameProgram(t, at(c.place, c.text), whole(join(make([]byte, c.place), raw(c.want))))
	}
	bad(t, at(128, "TSTB #x"), 2)
	bad(t, at(255, "TSTB #x"), 2)
	bad(t, at(256, "TSTB #x"), 2)
	bad(t, at(32768, "TSTW #x"), 1+spaceLines(32768))
	bad(t, at(65532, "TSTW #x"), 1+spaceLines(65532))
	bad(t, at(128, "TSTB #x\nwhat"), 3)
	sameProgram(t, "TSTL @#x\n"+spaces(65530)+"x:", whole(join(raw("d5 9f 00 00 01 00"), make([]byte, 65530))))
}

// A label that isn't there, and a register's name in its place, are told behind all lines that aren't as told.
func TestNoLabel(t *testing.T) {
	for _, text := range []string{"BRB x", "BRW x", "TSTL #x", "TSTB #x", "TSTL @#x", "TSTL @#x[R1]", "CLRL @#x", "MOVAB @#x, R1", "SOBGTR R1, x", "y: BRB x", "X: BRB x", "xx: BRB x", "BRB x1"} {
		badLater(t, text)
	}
	for _, reg := range []string{"R0", "R1", "R9", "R10", "R15", "AP", "FP", "SP", "PC"} {
		badLater(t, "BRB "+reg)
		badLater(t, "BRW "+reg)
		badLater(t, "TSTB #"+reg)
		badLater(t, "TSTL #"+reg)
		badLater(t, "TSTL @#"+reg)
		badLater(t, "TSTL @#"+reg+"[R1]")
	}
}

// What is taken for names, as labels and where they are asked for.
func TestNames(t *testing.T) {
	for _, name := range []string{
		"a", "z", "A", "Z", "m", "M", "_", "__", "a1", "a0z9", "_9", "A_b_2", strings.Repeat("x", 24), strings.Repeat("_", 23) + "9", "R", "R16", "R20", "R00", "R01", "R015", "R100", "R1x", "R_1", "RR1", "r1", "r15", "ap", "Ap", "AP1", "APP", "PCs", "SPACE", "NOP", "MOVL", "byte", "x0x1",
	} {
		good(t, name+":", "")
		good(t, name+": BRB "+name, "11 fe")
		good(t, "TSTL @#"+name+"\n"+name+": HALT", "d5 9f 06 00 00 00 00")
		badLater(t, "BRB "+name)
		badLater(t, "TSTB #"+name)
	}
	for _, name := range []string{
		"", "1", "1a", "0x1", "9_", "a b", "a.b", "a-b", "a+", "-a", "+a", "#a", "@a", "a$", "$", ".", ".a", "a.", "(a)", "a[", "a,b", "a\tb", "a\rb", "é", "aé", "\x80", "a\x80", "a\xff", "a\x00", "\x00", "a{", "a`", "a@", "[", "a/", "ä", "x٣", strings.Repeat("x", 25), strings.Repeat("x", 26), strings.Repeat("x", 280),
	} {
		badNow(t, name+":")
		badNow(t, name+": NOP")
		if name != "1" && name != "0x1" { // numbers may stand there
			badNow(t, "TSTB #"+name)
			badNow(t, "BRW "+name)
		}
	}
	for c := range 256 {
		sign := string([]byte{byte(c)})
		switch {
		case 'a' <= c && c <= 'z', 'A' <= c && c <= 'Z', c == '_':
			good(t, sign+":", "")
			good(t, "x"+sign+": NOP", "01")
		case '0' <= c && c <= '9':
			badNow(t, sign+":")
			good(t, "x"+sign+": NOP", "01")
		case c != '\n' && c != ':' && c != ';':
			badNow(t, sign+":")
			badNow(t, "x"+sign+": NOP")
			badNow(t, "x"+sign+"y: NOP")
		}
	}
	for _, reg := range []string{"R0", "R1", "R2", "R3", "R4", "R5", "R6", "R7", "R8", "R9", "R10", "R11", "R12", "R13", "R14", "R15", "AP", "FP", "SP", "PC"} {
		badNow(t, reg+":")
		badNow(t, reg+": NOP")
	}
}

// Labels: ahead of what they can stand, twice, several on lines behind one another.
func TestLabels(t *testing.T) {
	allGood(t, []row{
		{"x: NOP", "01"}, {"x: .byte 5", "05"}, {"x: .space 2", "00 00"}, {"x:", ""}, {"x: ; nothing", ""}, {"x:NOP", "01"}, {"x:.byte 5", "05"}, {"x: \t NOP", "01"}, {"\tx:\tNOP", "01"}, {" x:\r", ""},
		{"x:\ny:\n\nz: BRB x\nBRB y\nBRB z", "11 fe 11 fc 11 fa"}, {"X:\nx: BRB x\nNOP\ny:\nBRB X", "11 fe 01 11 fb"}, {"x: NOP\ny: BRB x", "01 11 fd"},
	})
	for _, c := range []struct {
		text string
		line int
	}{
		{"x:\nx:", 2}, {"x: NOP\nNOP\nx: NOP", 3}, {"x:\ny:\nx:\ny:", 3}, {"x:\nx: what", 2}, {"x: BRB x\nx: BRB x", 2},
		{"x: y: NOP", 1}, {"x: y:", 1}, {"x::", 1}, {"x:: NOP", 1}, {":", 1}, {": NOP", 1}, {"x : NOP", 1}, {"x\t:", 1}, {"NOP x:", 1}, {"NOP: NOP:", 1}, {"TSTL #x:", 1}, {".byte 1: NOP", 1}, {".byte: .byte 1", 1}, {"x", 1}, {"x NOP", 1}, {"x ; :", 1}, {"x; : NOP", 1},
	} {
		bad(t, c.text, c.line)
	}
}

// A label's place is how many bytes stand ahead of its line; operands that name labels have as many as with 0.
func TestPlaces(t *testing.T) {
	good(t, lines("TSTL #x", "TSTB #x", "TSTL @#y", "BRW y", "x: .byte 1", "y:"), "d5 8f 12 00 00 00 95 8f 12 d5 9f 13 00 00 00 31 01 00 01")
	good(t, lines("a: MOVL #b, @#c[R1]", "b: BRB a", "BSBW c", "c: .word 1,2", "d: CMPL @#d, #d"), "d0 8f 0c 00 00 00 41 9f 11 00 00 00 11 f2 30 00 00 01 00 02 00 d1 9f 15 00 00 00 8f 15 00 00 00")
	good(t, lines(".long 1", "x: .space 3", "y: .word 9, 9", "z: .byte 7,7,7", "w: TSTB @#x", "TSTB @#y", "TSTB @#z", "TSTB @#w", "TSTB @#v", "v:"),
		"01 00 00 00 00 00 00 09 00 09 00 07 07 07 95 9f 04 00 00 00 95 9f 07 00 00 00 95 9f 0b 00 00 00 95 9f 0e 00 00 00 95 9f 2c 00 00 00")
	good(t, lines("MOVL #5, 300(R1)", "MOVL #64, 3(R1)", "x: HALT", "TSTL @#x"), "d0 05 c1 2c 01 d0 8f 40 00 00 00 a1 03 00 d5 9f 0d 00 00 00")
}
