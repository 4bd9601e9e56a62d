package asm_test

import (
	"strings"
	"testing"

	"camshaft/api"
	"camshaft/asm"
)

// P12.1, Assemble, by hand: numbers, directives, lines, and which line is told.

// Numbers, and what they count, modulo 2^32.
func TestNumbers(t *testing.T) {
	for text, want := range map[string]string{
		"0": "00 00 00 00", "1": "01 00 00 00", "9": "09 00 00 00", "10": "0a 00 00 00", "00": "00 00 00 00", "007": "07 00 00 00", "0123456789": "15 cd 5b 07", "4294967295": "ff ff ff ff", "4294967294": "fe ff ff ff", "2147483648": "00 00 00 80", "00000000000000000000000000004294967295": "ff ff ff ff",
		"-0": "00 00 00 00", "-1": "ff ff ff ff", "-00002": "fe ff ff ff", "-256": "00 ff ff ff", "-2147483647": "01 00 00 80", "-2147483648": "00 00 00 80",
		"0x0": "00 00 00 00", "0x9": "09 00 00 00", "0xa": "0a 00 00 00", "0xf": "0f 00 00 00", "0x10": "10 00 00 00", "0xbcde": "de bc 00 00", "0x12345678": "78 56 34 12", "0xffffffff": "ff ff ff ff", "0x00000000000000000000ffffffff": "ff ff ff ff",
		"-0x0": "00 00 00 00", "-0x1": "ff ff ff ff", "-0xff": "01 ff ff ff", "-0x7fffffff": "01 00 00 80", "-0x80000000": "00 00 00 80", "-0x0080000000": "00 00 00 80",
		strings.Repeat("0", 60000) + "7": "07 00 00 00", "-0x" + strings.Repeat("0", 60000) + "7": "f9 ff ff ff",
	} {
		good(t, ".long "+text, want)
		good(t, ".byte "+text, want[:2])
		good(t, "TSTL @#"+text, "d5 9f "+want)
	}
	for _, text := range []string{
		"", "-", "0x", "-0x", "--1", "---1", "- 1", "+1", "+", "-+1", "+-1",
		"4294967296", "4294967297", "42949672950", "99999999999", "18446744073709551615", "18446744073709551616", "18446744073709551617", "340282366920938463463374607431768211457", "-2147483649", "-4294967295", "-4294967296", "-18446744073709551616", "0x100000000", "0x1ffffffff", "0x10000000000000000", "0x10000000000000001", "-0x80000001", "-0xffffffff", "-0x100000000",
		"a", "f", "x", "_", "1a", "1f", "a1", "0a", "1_0", "_1", "0_1", "1.", ".1", "1.0", "1e3", "0b1", "0o7", "0X1", "0x1g", "0xg", "0xA", "0xF", "0x1B", "0xDEAD", "0x-1", "0x+1", "x1", "0xx1", "0x0x1", "-0x-1", "00x1", "1x0", "1-", "1+1", "2-1", "1 2", "1\t2", "0x 1", "0 x1", "#1", "'a'", "$1", "1$", "1h", "/", "(1)", "R1", "٣", "１", "1\x00", "\x001", "1\x80", "−1",
		strings.Repeat("9", 60000), "0x" + strings.Repeat("f", 60000), "1" + strings.Repeat("0", 60000),
	} {
		badNow(t, ".long "+text)
		badNow(t, ".space "+text)
		if text != "" && text != "-" { // these are other ways
			badNow(t, "TSTL "+text+"(R1)")
		}
	}
	for c := range 256 {
		sign := string([]byte{byte(c)})
		if strings.Contains("0123456789\n;:,", sign) {
			continue
		}
		badNow(t, ".byte 1"+sign+"2")
		if !strings.Contains("abcdef", sign) {
			badNow(t, ".byte 0x1"+sign+"2")
		}
	}
}

func TestSpace(t *testing.T) {
	for text, n := range map[string]int{"0": 0, "-0": 0, "1": 1, "2": 2, "100": 100, "4095": 4095, "4096": 4096, "0x0": 0, "0xfff": 4095, "0x1000": 4096, "04096": 4096, " 3 ": 3, "\t3\t": 3} {
		sameProgram(t, ".space "+text, whole(make([]byte, n)))
		sameProgram(t, "NOP\n.space "+text+"\nNOP", whole(join([]byte{1}, make([]byte, n), []byte{1})))
	}
	for _, text := range []string{
		".space 4097", ".space 0x1001", ".space 5000", ".space 65536", ".space 4294967295", ".space -1", ".space -4096", ".space -2147483648", ".space", ".space ", ".space x", ".space R1", ".space #1", ".space 1,2", ".space 1,", ".space ,1", ".space 1 2", ".space x\nx:",
	} {
		badNow(t, text)
	}
}

func TestByteWordLong(t *testing.T) {
	allGood(t, []row{
		{".byte 1", "01"}, {".byte 1,2", "01 02"}, {".byte 1, 2, 3", "01 02 03"}, {".byte 255", "ff"}, {".byte 256", "00"}, {".byte 257", "01"}, {".byte -1", "ff"}, {".byte -128, -129, 0x1234", "80 7f 34"}, {".byte 4294967295", "ff"},
		{".word 1", "01 00"}, {".word 1,2", "01 00 02 00"}, {".word 0x1234, -1, 65535", "34 12 ff ff ff ff"}, {".word 65536", "00 00"}, {".word 65537, -65537", "01 00 ff ff"}, {".word 0x12345678", "78 56"},
		{".long 1", "01 00 00 00"}, {".long 0x12345678, -2", "78 56 34 12 fe ff ff ff"}, {".long 1,2,3", "01 00 00 00 02 00 00 00 03 00 00 00"},
		{".byte  1", "01"}, {".byte \t1\t", "01"}, {".byte 1 ,2", "01 02"}, {".byte 1\t,\r2\r", "01 02"}, {".word \r1 , \t 2 ; 3", "01 00 02 00"}, {" .long 5", "05 00 00 00"}, {".byte 1;,2", "01"},
	})
	for _, name := range []string{".byte", ".word", ".long"} {
		for _, rest := range []string{"", " ", " ,", " 1,", " ,1", " 1,,2", " 1, ,2", " 1 2", " x", " 1, x", " x, 1", " R1", " #1", " (1)", "1", ",1", "\t1", " 1:", " \"a\"", " 4294967296", " 1, 4294967296", " -", " 1, -2147483649"} {
			badNow(t, name+rest)
		}
		badNow(t, "x: "+name+" x")
		badNow(t, strings.ToUpper(name)+" 1")
		badNow(t, name[1:]+" 1")
		badNow(t, "."+name+" 1")
		badNow(t, ". "+name[1:]+" 1")
		badNow(t, name+"s 1")
		badNow(t, name[:4]+" 1")
	}
	for _, text := range []string{".", ". 1", ".x", ".x 1", ".space1", ".SPACE 1", ".Space 1", ".spac 1", "space 1", ".NOP", ".ascii 1", ".org 1", ".long.long 1"} {
		badNow(t, text)
	}
}

// Operands: too few, too many, none where there are some, some where there are none.
func TestHowMany(t *testing.T) {
	allGood(t, []row{{"NOP", "01"}, {"HALT", "00"}, {"REI", "02"}, {"TSTL R1", "d5 51"}, {"MOVL R1, R2", "d0 51 52"}, {"ADDL3 R1, R2, R3", "c1 51 52 53"}, {"EXTV R1, R2, R3, R4", "ee 51 52 53 54"}, {"MOVC5 R1, (R2), R3, R4, (R5)", "2c 51 62 53 54 65"}})
	for _, text := range []string{
		"NOP R1", "NOP 0", "NOP ,", "HALT #1", "RSB x", "NOP NOP", "TSTL", "TSTL ,", "TSTL R1,", "TSTL ,R1", "TSTL R1, R2", "TSTL R1 R2", "MOVL", "MOVL R1", "MOVL R1,", "MOVL ,R1", "MOVL ,", "MOVL R1,,R2", "MOVL R1, R2,", "MOVL R1, R2, R3", "MOVL R1; R2", "MOVL R1 R2", "ADDL3 R1, R2", "ADDL3 R1, R2, R3, R4", "BRB", "BRB 1, 2", "BRB x, y", "BRB ,", "SOBGTR R1", "SOBGTR x", "SOBGTR R1, R2, x", "MOVC5 R1, (R2), R3, R4", "MOVC5 R1, (R2), R3, R4, (R5), R6",
	} {
		badNow(t, text)
	}
}

// Names of instructions are those of layer 10, to the letter.
func TestInstructionNames(t *testing.T) {
	for _, text := range []string{"what", "nop", "Nop", "NO", "NOPE", "N OP", "NOP.", "NOP,", "MOV R1, R2", "MOVX R1, R2", "movl R1, R2", "ADD2 R1, R2", "R1", "AP", "x", "5", "-", "#", "@", "(R1)", "+", ",", "[", "\x00", "\xff", "NOP\x00", "é"} {
		badNow(t, text)
	}
}

// White signs at both ends of lines, around numbers and operands, play no part; a blank stands behind a name, and elsewhere none.
func TestWhite(t *testing.T) {
	allGood(t, []row{
		{" NOP", "01"}, {"\tNOP", "01"}, {"\rNOP", "01"}, {"NOP ", "01"}, {"NOP\t", "01"}, {"NOP\r", "01"}, {" \t\r NOP \r\t ", "01"}, {"NOP\r\nHALT\r\n", "01 00"}, {"   x:\t\r NOP", "01"},
		{"MOVL  R1, R2", "d0 51 52"}, {"MOVL R1,R2", "d0 51 52"}, {"MOVL R1 , R2", "d0 51 52"}, {"MOVL R1\t,\tR2", "d0 51 52"}, {"MOVL \tR1,\r R2\t\r", "d0 51 52"}, {"MOVL \r\t #5 \t, \t -(SP) ", "d0 05 7e"}, {"x: BRB \tx\t", "11 fe"}, {"BRB \r 5 \r", "11 05"},
	})
	for _, text := range []string{"MOVL\tR1, R2", "MOVL\rR1, R2", "MOVLR1, R2", "NOP\rNOP", "N\tOP", ".byte\t1", ".space\t1", ".byte\r1", "TSTL R 1", "TSTL R1 ]", "BRB 1 2", "BRB - 1", "BRB x y", "x : NOP", "x\t: NOP", "x\r:"} {
		badNow(t, text)
	}
}

// Lines of nothing, and what stands from a line's first ; on.
func TestComments(t *testing.T) {
	allGood(t, []row{
		{"", ""}, {"\n", ""}, {"\n\n\n", ""}, {" ", ""}, {"\t\r \n \r", ""}, {";", ""}, {";;", ""}, {"; what", ""}, {" ; what : \n;", ""}, {";NOP\nHALT", "00"},
		{"NOP;", "01"}, {"NOP ; what", "01"}, {"NOP;what;what", "01"}, {"NOP ; x: y", "01"}, {"x: ; y: NOP", ""}, {"x:;", ""}, {"MOVL R1, R2 ; , R3", "d0 51 52"}, {".byte 1 ; , x", "01"}, {"TSTL #5;6", "d5 05"}, {"NOP\n\n;\n\nHALT\n", "01 00"}, {"NOP ; \xff\x00é", "01"},
		{"x: NOP ; y:\ny: NOP", "01 01"},
	})
	bad(t, "\n\n;\n what ; what", 4)
	bad(t, "MOVL R1; , R2", 1)
	bad(t, "x; : NOP", 1)
	bad(t, "NOP ; x:\nBRB x", 2)
	bad(t, "NOP\rHALT", 1)
}

// Which line is told: the first that isn't as told, ahead of all whose label's place isn't there or can't be written.
func TestWhichLine(t *testing.T) {
	far := ".space 200"
	for _, c := range []struct {
		text string
		line int
	}{
		{"what\nwhat", 1}, {"NOP\nwhat\nwhat", 2}, {"NOP\n\n;\nwhat", 4}, {"what", 1}, {"\nwhat\n", 2}, {"NOP\n what", 2},
		{"BRB x\nwhat", 2}, {"BRB x\nNOP\nTSTL R16\nwhat", 3}, {"TSTL #x\nBRB y\nBRB 200", 3}, {"BRB x\nx:\nx:", 3}, {"BRB R1\nR1:", 2},
		{"BRB x\nBRB y", 1}, {"x: BRB x\nBRB y\nBRB z", 2}, {"NOP\nx: BRB y\nBRB z\ny:", 3},
		{lines("BRB x", far, "x: NOP", "BRB y"), 1}, {lines("BRB y", far, "BRB x", far, "x: NOP"), 1}, {lines("x: NOP", far, "BRB x", "BRB y"), 3}, {lines("x:", far, "BRW x", "BRB x"), 4},
		{lines("BRB x", far, "x: NOP", "what"), 4}, {lines("x:", far, "y: TSTB #y", "TSTW #z", "BRB x"), 3}, {lines("x:", far, "y: TSTL #y", "TSTW #z", "BRB x"), 4},
		{lines("MOVAB @#x, @#y", "x:"), 1}, {lines("MOVAB @#x, @#y", "y:"), 1}, {lines("x: MOVAB @#x, @#x", "MOVAB @#x, @#y"), 2},
	} {
		bad(t, c.text, c.line)
	}
}

// Texts of as many bytes as they can have, and of one more.
func TestLongTexts(t *testing.T) {
	good(t, "NOP;"+strings.Repeat("x", asm.MaxBytes-4), "01")
	sameProgram(t, "NOP;"+strings.Repeat("x", asm.MaxBytes-3), tooLong)
	sameProgram(t, "what;"+strings.Repeat("x", asm.MaxBytes), tooLong)
	good(t, strings.Repeat("\n", asm.MaxBytes), "")
	sameProgram(t, strings.Repeat("\n", asm.MaxBytes+1), tooLong)
	sameProgram(t, strings.Repeat("what\n", asm.MaxBytes), tooLong)
	bad(t, strings.Repeat("\n", asm.MaxBytes-1)+"x", asm.MaxBytes)
	sameProgram(t, strings.Repeat("NOP\n", asm.MaxBytes/4), whole([]byte(strings.Repeat("\x01", asm.MaxBytes/4))))
	sameProgram(t, strings.Repeat("NOP\n", asm.MaxBytes/4)+"\n", tooLong)
	bad(t, strings.Repeat("\n", asm.MaxBytes-5)+"BRB x", asm.MaxBytes-4)
	sameProgram(t, strings.Repeat(" ", 3*asm.MaxBytes), tooLong)
}

// Programs of as many bytes as they can have, and of one more: the line is told with which they are too long.
func TestLongPrograms(t *testing.T) {
	full := strings.Repeat(".space 4096\n", 16)
	noughts := make([]byte, asm.MaxBytes)
	for _, behind := range []string{"", "x:", "; NOP", "\n\n", ".space 0", "x: .space 0\ny:\n"} {
		sameProgram(t, full+behind, whole(noughts))
	}
	for _, behind := range []string{"NOP", ".byte 1", ".space 1", ".space 4096", "BRB 0", "x: BRB x", "BRB y", "what", "NOP\nwhat", "x: NOP\nx:"} {
		bad(t, full+behind, 17)
		bad(t, "BRB nowhere\n"+full+behind, 17)
	}
	bad(t, full+"x:\n\n.space 0\nNOP", 20)
	bad(t, strings.Repeat(".space 4096\n", 2000), 17)
	for n := range 7 {
		text := ".space 4090\n" + strings.Repeat(".space 4096\n", 15)
		want := make([]byte, asm.MaxBytes-6)
		text += strings.Repeat("HALT\n", n)
		for _, c := range []struct {
			last string
			b    []byte
		}{{"NOP", raw("01")}, {".word 1", raw("01 00")}, {".byte 3,4,5", raw("03 04 05")}, {".long 1", raw("01 00 00 00")}, {"BRW 1", raw("31 01 00")}, {"TSTL #64", raw("d5 8f 40 00 00 00")}, {"TSTL @#0[R1]", raw("d5 41 9f 00 00 00 00")}} {
			if n+len(c.b) > 6 {
				bad(t, text+c.last, 17+n)
			} else {
				sameProgram(t, text+c.last, whole(join(want, make([]byte, n), c.b)))
			}
		}
	}
	sameProgram(t, full+"x:\n", whole(noughts))
	sameProgram(t, ".space 4090\n"+strings.Repeat(".space 4096\n", 15)+"TSTL @#x\nx:", whole(join(noughts[:asm.MaxBytes-6], raw("d5 9f 00 00 01 00"))))
}

// Beside an error there are no bytes; beside none, and beside ErrLong, no line.
func TestNothingBeside(t *testing.T) {
	for _, text := range []string{"NOP\nwhat", "NOP\nBRB x", "x: NOP\n.space 4096\nBRB x", strings.Repeat("NOP\n", 1<<15), strings.Repeat(".space 4096\n", 17)} {
		b, line, e := asm.Assemble(text)
		if len(b) != 0 || e == api.OK || (line == 0) != (e == api.ErrLong) {
			t.Errorf("%q: %d bytes, line %d, error %d", short(text), len(b), line, e)
		}
	}
	if _, line, e := asm.Assemble("NOP"); line != 0 || e != api.OK {
		t.Errorf("NOP: line %d, error %d", line, e)
	}
}
