package arch_test

import "testing"

func TestNumbersInInstructions(t *testing.T) {
	row(t, "MOVL #0, R1", "", "R1=0 PSL=4")
	row(t, "MOVL #63, R1", "", "R1=3f")
	row(t, "MOVB #63, R1", "", "R1=a0b0c03f")
	row(t, "MOVB #-2, R1", "", "R1=a0b0c0fe PSL=8")
	row(t, "MOVW #-2, R1", "", "R1=a0b0fffe PSL=8")
	row(t, "MOVW #0x1234, R1", "", "R1=a0b01234")
	row(t, "MOVL #-2, R1", "", "R1=fffffffe PSL=8")
	row(t, "MOVL #0x12345678, R1", "", "R1=12345678")
	// What is read as two bytes has no more than these, with or without a sign.
	row(t, "MOVZWL #-2, R1", "", "R1=fffe")
	row(t, "CVTWL #-2, R1", "", "R1=fffffffe PSL=8")
	row(t, "MOVZBL #-2, R1", "", "R1=fe")
	row(t, "CVTBL #-2, R1", "", "R1=fffffffe PSL=8")
}

func TestRegistersAsOperands(t *testing.T) {
	row(t, "MOVL R2, R1", "R2=80000001", "R1=80000001 PSL=8")
	row(t, "MOVW R2, R1", "R2=12348001", "R1=a0b08001 PSL=8")
	row(t, "MOVB R2, R1", "R2=12345680", "R1=a0b0c080 PSL=8")
	row(t, "MOVB R2, R1", "R2=12345600", "R1=a0b0c000 PSL=4")
	row(t, "MOVL SP, R1", "", "R1=800")
	row(t, "MOVL R1, SP", "R1=1234", "SP=1234")
	row(t, "MOVL FP, AP", "", "AP=a0b0c0dd PSL=8")
	row(t, "INCB R1", "R1=123456ff", "R1=12345600 PSL=5")
	row(t, "INCW R1", "R1=1234ffff", "R1=12340000 PSL=5")
	row(t, "INCL R1", "R1=1234ffff", "R1=12350000")
	row(t, "ADDB2 R2, R1", "R1=11111110 R2=22222201", "R1=11111111")
	row(t, "ADDW2 R2, R1", "R1=11111110 R2=2222ffff", "R1=1111110f PSL=1")
}

func TestReadsAtAddresses(t *testing.T) {
	ahead := "R1=2004 R3=3 @2000=a0a1a2a3 @2004=44332211 @2008=5566778899aabbcc @2010=30200000 @2030=01020304"
	row(t, "MOVL (R1), R2", ahead, "R2=11223344")
	row(t, "MOVW (R1), R2", ahead, "R2=a0b03344")
	row(t, "MOVB (R1), R2", ahead, "R2=a0b0c044")
	row(t, "MOVL (R1)+, R2", ahead, "R2=11223344 R1=2008")
	row(t, "MOVW (R1)+, R2", ahead, "R2=a0b03344 R1=2006")
	row(t, "MOVB (R1)+, R2", ahead, "R2=a0b0c044 R1=2005")
	row(t, "MOVL -(R1), R2", ahead, "R2=a3a2a1a0 R1=2000 PSL=8")
	row(t, "MOVW -(R1), R2", ahead, "R2=a0b0a3a2 R1=2002 PSL=8")
	row(t, "MOVB -(R1), R2", ahead, "R2=a0b0c0a3 R1=2003 PSL=8")
	row(t, "MOVL 4(R1), R2", ahead, "R2=88776655 PSL=8")
	row(t, "MOVW -1(R1), R2", ahead, "R2=a0b044a3")
	row(t, "MOVB 0x100(R1), R2", ahead+" @2104=7f", "R2=a0b0c07f")
	row(t, "MOVB -0x100(R1), R2", ahead+" @1f04=7e", "R2=a0b0c07e")
	row(t, "MOVB 0x10000(R1), R2", ahead+" R1=ffff2010", "R2=a0b0c030")
	row(t, "MOVB -0x10000(R1), R2", ahead+" R1=12010", "R2=a0b0c030")
	row(t, "MOVL @12(R1), R2", ahead, "R2=4030201")
	row(t, "MOVB @-4(R1), R2", ahead+" @2000=07200000", "R2=a0b0c011")
	row(t, "MOVW @0x100(R1), R2", ahead+" @2104=06200000", "R2=a0b01122")
	row(t, "MOVW @0x10000(R1), R2", ahead+" R1=ffff2010", "R2=a0b00201")
	row(t, "MOVB @(R1)+, R2", ahead+" R1=2010", "R1=2014 R2=a0b0c001")
	row(t, "MOVW @(R1)+, R2", ahead+" R1=2010", "R1=2014 R2=a0b00201")
	row(t, "MOVL @(R1)+, R2", ahead+" R1=2010", "R1=2014 R2=4030201")
	row(t, "MOVL @#0x2008, R2", ahead, "R2=88776655 PSL=8")
	row(t, "MOVB @#0x2003, R2", ahead, "R2=a0b0c0a3 PSL=8")
	row(t, "MOVL (SP)+, R2", "@800=01000000", "R2=1 SP=804")
	row(t, "MOVL 4(FP), R2", "FP=2000 "+ahead, "R2=11223344 FP=2000")
}

func TestIndexes(t *testing.T) {
	ahead := "R1=2000 R3=2 @2000=000102030405060708090a0b0c0d0e0f @2040=04200000"
	row(t, "MOVB (R1)[R3], R2", ahead, "R2=a0b0c002")
	row(t, "MOVW (R1)[R3], R2", ahead, "R2=a0b00504")
	row(t, "MOVL (R1)[R3], R2", ahead, "R2=b0a0908")
	row(t, "MOVL (R1)[R3], R2", ahead+" R1=200c R3=ffffffff", "R2=b0a0908")
	row(t, "MOVB (R1)[R3], R2", ahead+" R1=2005 R3=fffffffe", "R2=a0b0c003")
	row(t, "MOVL (R1)[R3], R2", ahead+" R3=40000001", "R2=7060504")
	row(t, "MOVW (R1)+[R3], R2", ahead, "R1=2002 R2=a0b00504")
	row(t, "MOVW -(R1)[R3], R2", ahead+" R1=2004", "R1=2002 R2=a0b00706")
	row(t, "MOVW 1(R1)[R3], R2", ahead, "R2=a0b00605")
	row(t, "MOVW @#0x2001[R3], R2", ahead, "R2=a0b00605")
	row(t, "MOVW @0x40(R1)[R3], R2", ahead, "R2=a0b00908")
	row(t, "MOVW @(R1)+[R3], R2", ahead+" R1=2040", "R1=2044 R2=a0b00908")
	row(t, "MOVB (R1)[SP], R2", ahead+" SP=3", "R2=a0b0c003")
	// A register that steps has done so when it is an index.
	row(t, "MOVB (R1)+[R1], R2", ahead+" R1=1001 @2003=77", "R1=1002 R2=a0b0c077")
	row(t, "MOVB -(R1)[R1], R2", ahead+" R1=1001 @2000=77", "R1=1000 R2=a0b0c077")
	row(t, "MOVB @(R1)+[R1], R2", ahead+" R1=2040 @4=77 @2040=c0dfffff", "R1=2044 R2=a0b0c077")
	row(t, "MOVB (R1)[R1], R2", ahead+" R1=1002", "R2=a0b0c004")
	row(t, "MOVL (R1)[R3], (R3)[R1]", ahead+" R1=2 R3=ffc @3ff2=01020304", "@1004=01020304 R1=2 R3=ffc")
}

func TestWritesToAddresses(t *testing.T) {
	ahead := "R1=2004 R3=3 R4=12345678 @2010=30200000"
	row(t, "MOVL R4, (R1)", ahead, "@2004=78563412")
	row(t, "MOVW R4, (R1)", ahead, "@2004=7856")
	row(t, "MOVB R4, (R1)", ahead, "@2004=78")
	row(t, "MOVL R4, (R1)+", ahead, "@2004=78563412 R1=2008")
	row(t, "MOVW R4, -(R1)", ahead, "@2002=7856 R1=2002")
	row(t, "MOVB R4, -(R1)", ahead, "@2003=78 R1=2003")
	row(t, "MOVL R4, 3(R1)", ahead, "@2007=78563412")
	row(t, "MOVL R4, @12(R1)", ahead, "@2030=78563412")
	row(t, "MOVB R4, @(R1)+", ahead+" R1=2010", "@2030=78 R1=2014")
	row(t, "MOVL R4, @#0x2001", ahead, "@2001=78563412")
	row(t, "MOVL R4, (R1)[R3]", ahead, "@2010=78563412")
	row(t, "MOVW R4, (R1)[R3]", ahead, "@200a=7856")
	row(t, "MOVL R4, -(SP)", ahead, "@7fc=78563412 SP=7fc")
	row(t, "INCL (R1)+", ahead+" @2004=ffff0000", "@2004=00000100 R1=2008")
	row(t, "INCW -(R1)", ahead+" @2002=ff00", "@2002=0001 R1=2002")
	row(t, "INCB @12(R1)", ahead+" @2030=41", "@2030=42")
	row(t, "ADDB2 #1, (R1)[R3]", ahead+" @2007=7e", "@2007=7f")
	row(t, "ADDL2 #1, @(R1)+[R3]", ahead+" R1=2010 @203c=00000010", "@203c=01000010 R1=2014")
	// Of what is just written no byte is read.
	row(t, "CLRL @#0x4000", "", "fault 4 0")
	row(t, "CLRL @#0x3ffc", "", "@3ffc=00000000 PSL=4")
}

func TestAddressesAsOperands(t *testing.T) {
	ahead := "R1=2004 R3=3 @2004=f0debc9a"
	row(t, "MOVAB (R1), R2", ahead, "R2=2004")
	row(t, "MOVAB (R1)+, R2", ahead, "R2=2004 R1=2005")
	row(t, "MOVAW (R1)+, R2", ahead, "R2=2004 R1=2006")
	row(t, "MOVAL (R1)+, R2", ahead, "R2=2004 R1=2008")
	row(t, "MOVAW -(R1), R2", ahead, "R2=2002 R1=2002")
	row(t, "MOVAL @(R1)+, R2", ahead, "R2=9abcdef0 R1=2008 PSL=8")
	row(t, "MOVAB @0(R1)[R3], R2", ahead, "R2=9abcdef3 PSL=8")
	row(t, "MOVAW (R1)[R3], R2", ahead, "R2=200a")
	row(t, "MOVAL (R1)[R3], R2", ahead, "R2=2010")
	row(t, "MOVAL -(R1)[R1], R2", ahead, "R1=2000 R2=a000")
	row(t, "MOVAB @#0x12345678, R2", ahead, "R2=12345678")
	row(t, "MOVAB -1(R1), R2", ahead+" R1=0", "R2=ffffffff PSL=8 R1=0")
	// A field begins at an address, of one byte.
	row(t, "EXTZV #0, #8, (R1)+, R2", ahead, "R2=f0 R1=2005")
	row(t, "EXTZV #0, #8, -(R1), R2", ahead+" @2003=21", "R2=21 R1=2003")
	row(t, "EXTZV #0, #8, (R1)[R3], R2", ahead, "R2=9a")
}

// PC as the register of a displacement is behind it, ahead of what else the instruction has.
func TestNearPC(t *testing.T) {
	row(t, "MOVB 1(PC), R2\n.byte 0x55, 0x66", "", "R2=a0b0c055 PC=404")
	row(t, ".byte 0x90, 0xaf, 0, 0x52, 0x55", "", "R2=a0b0c052 PC=404")
	row(t, ".byte 0x90, 0xcf, 0, 0, 0x52", "", "R2=a0b0c052")
	row(t, ".byte 0x90, 0xef, 0, 0, 0, 0, 0x52", "", "R2=a0b0c052")
	row(t, ".byte 0x90, 0xaf, 0xff, 0x52", "", "R2=a0b0c0ff PSL=8")
	row(t, ".byte 0xde, 0xaf, 0x7f, 0x52", "", "R2=482")
	row(t, ".byte 0xde, 0xcf, 0x00, 0x80, 0x52", "", "R2=ffff8404 PSL=8")
	row(t, ".byte 0xde, 0xef, 0x00, 0x00, 0x00, 0x7f, 0x52", "", "R2=7f000406")
	row(t, ".byte 0xde, 0xbf, 2, 0x52, 0x55, 0x11, 0x22, 0x33, 0x44", "", "R2=44332211 PC=404")
	row(t, ".byte 0xde, 0xdf, 0x00, 0x1c, 0x52", "@2004=11223344", "R2=44332211")
	row(t, ".byte 0xde, 0xff, 0x00, 0x1c, 0x00, 0x00, 0x52", "@2006=11223344", "R2=44332211")
	row(t, ".byte 0xde, 0x43, 0xaf, 1, 0x52", "R3=10", "R2=445")
	row(t, ".byte 0xde, 0x43, 0xff, 0x00, 0x1c, 0x00, 0x00, 0x52", "R3=10 @2007=11223344", "R2=44332251")
}

// One register steps up and down, and is read in between, as often as it is named.
func TestOperandsThatStepOneRegister(t *testing.T) {
	ahead := "R1=2000 @2000=010203040506070809"
	row(t, "ADDL3 (R1)+, (R1)+, (R1)", ahead, "@2008=06080a0c R1=2008")
	row(t, "ADDL3 (R1)+, (R1)+, (R1)+", ahead, "@2008=06080a0c R1=200c")
	row(t, "ADDL3 (R1)+, (R1)+, -(R1)", ahead, "@2004=06080a0c R1=2004")
	row(t, "ADDW3 (R1)+, -(R1), (R1)+", ahead, "@2000=0204 R1=2002")
	row(t, "ADDB2 (R1)+, (R1)+", ahead, "@2001=03 R1=2002")
	row(t, "ADDL3 R1, (R1)+, R2", ahead, "R1=2004 R2=4032201")
	row(t, "ADDL3 (R1)+, R1, R2", ahead, "R1=2004 R2=4032205")
	row(t, "ADDL3 (R1)+, -(R1), R1", ahead, "R1=8060402")
	row(t, "MOVL (R1)+, R1", ahead, "R1=4030201")
	row(t, "MOVB (R1)+, R1", ahead, "R1=2001")
	row(t, "MOVL R1, (R1)+", ahead, "R1=2004 @2000=00200000")
	row(t, "MOVL R1, -(R1)", ahead, "R1=1ffc @1ffc=00200000")
	row(t, "MOVAL (R1)+, (R1)+", ahead, "R1=2008 @2004=00200000")
	row(t, "MOVL (R1)+[R1], R2", ahead+" R1=800 @2810=11223344", "R1=804 R2=44332211")
	row(t, "ADDL2 R1, (R1)+", ahead, "R1=2004 @2000=01220304")
	row(t, "MOVL (R1)+, 4(R1)", ahead, "R1=2004 @2008=01020304")
	row(t, "MOVL @(R1)+, @(R1)+", ahead+" @2000=08200000 @2004=0c200000 @2008=21222324", "R1=2008 @200c=21222324")
}

func TestSpecifiersThatCannotBe(t *testing.T) {
	// The byte behind the memory's last one isn't there: what is read beyond the byte that tells would have another fault.
	for _, x := range []struct{ text, bytes string }{
		{"a literal that is written", "d405"},
		{"one that is modified", "d63f"},
		{"one whose address is taken", "9f00"},
		{"a number that is written", "d48f"},
		{"one whose address is taken", "df8f"},
		{"one that is modified", "b68f"},
		{"a field in a number", "e0008f"},
		{"a field in a literal", "e00000"},
		{"PC itself", "d55f"},
		{"deferred", "d56f"},
		{"down", "d57f"},
		{"a register's address", "9f51"},
		{"an index PC", "d54f"},
		{"an index of a literal", "d54200"},
		{"of an index", "d54243"},
		{"of an index PC", "d5424f"},
		{"of a register", "d54251"},
		{"of a number", "d5428f"},
		{"of PC", "d5425f"},
		{"of PC, deferred", "d5426f"},
		{"of PC, down", "d5427f"},
		{"the second one", "d0014f"},
		{"the third one", "c1010203"},
	} {
		code := string(x.bytes)
		n := len(code) / 2
		rowOf(t, nil, 0, x.text, "PC="+hex(uint32(size-n))+" @"+hex(uint32(size-n))+"="+code, "fault 1c")
		// One byte less, and it isn't there.
		rowOf(t, nil, 0, x.text, "PC="+hex(uint32(size-n+1))+" @"+hex(uint32(size-n+1))+"="+code[:2*n-2], "fault 4 0")
	}
}

// An operand ahead is evaluated ahead of one that can't be, and so is what it raises.
func TestWhatIsRaisedFirst(t *testing.T) {
	row(t, ".byte 0xd0, 0x9f, 0x00, 0x40, 0, 0, 0x05", "", "fault 4 0")
	row(t, ".byte 0xd0, 0x61, 0x05", "R1=4000", "fault 4 0")
	row(t, ".byte 0xd0, 0x81, 0x05", "R1=2000", "fault 1c")
	row(t, ".byte 0xd0, 0x81, 0x4f", "R1=2000", "fault 1c")
	row(t, ".byte 0x9e, 0x61, 0x05", "R1=4000", "fault 1c")
	row(t, "MOVL (R1), (R2)", "map R1=2000 R2=2200 gone10 nobodys11", "fault 24 2000 0")
	row(t, "MOVL (R1), (R2)", "map R1=2000 R2=2200 nobodys11", "fault 20 2200 4")
	row(t, "MOVL @(R1)+, @#0x40000000", "R1=2000 @2000=00400000", "fault 4 0")
}

func TestAccessesOverPages(t *testing.T) {
	// A number whose second page, or whose first one, may not be read, or written.
	row(t, "MOVL (R1), R2", "map R1=21fe @21fe=11223344", "R2=44332211")
	row(t, "MOVL (R1), R2", "map R1=21fe gone10", "fault 24 21fe 0")
	row(t, "MOVL (R1), R2", "map R1=21fe gone11", "fault 24 2200 0")
	row(t, "MOVL (R1), R2", "map R1=21fe nobodys11", "fault 20 2200 0")
	row(t, "MOVL (R1), R2", "map R1=21fe P0LR=11", "fault 20 2200 1")
	row(t, "MOVW (R1), R2", "map R1=21fe gone11 @21fe=3344", "R2=a0b04433")
	row(t, "MOVL #5, (R1)", "map R1=21fe", "@21fe=05000000 mark10 mark11")
	row(t, "MOVL #5, (R1)", "map R1=21fe gone10", "fault 24 21fe 4")
	row(t, "MOVL #5, (R1)", "map R1=21fe gone11", "fault 24 2200 4")
	row(t, "MOVL #5, (R1)", "map R1=21fe read11", "@21fe=05000000 mark10 mark11")
	row(t, "MOVL #5, (R1)", "map user R1=21fe read11", "fault 20 2200 4")
	row(t, "MOVL #5, (R1)", "map user R1=21fe kernels10", "fault 20 21fe 4")
	row(t, "MOVL #5, (R1)", "map R1=21fe P0LR=11", "fault 20 2200 5")
	row(t, "INCL (R1)", "map user R1=21fe read11", "fault 20 2200 4")
	row(t, "MOVL @(R1)+, R2", "map R1=21fe gone11", "fault 24 2200 0")
	row(t, "MOVL @(R1)+, R2", "map R1=2100 @2100=00220000 gone11", "fault 24 2200 0")
	row(t, "MOVL @4(R1), R2", "map R1=20fc @2100=00220000 gone11", "fault 24 2200 0")
	row(t, "MOVL @4(R1), R2", "map user R1=20fc kernels10", "fault 20 2100 0")
	row(t, "MOVL R2, @4(R1)", "map R1=21fb gone11", "fault 24 2200 0")
	row(t, "MOVAL @(R1)+, R2", "map R1=2100 @2100=00220000 gone11", "R1=2104 R2=2200")
	row(t, "MOVL (R1), R2", "R1=3ffd", "fault 4 0")
	row(t, "MOVL #1, (R1)", "R1=3ffd", "fault 4 0")
	row(t, "MOVL (R1), R2", "R1=fffffffe", "fault 4 0")
}

// The instruction's own bytes are read one by one, as they are needed.
func TestBytesOfTheInstruction(t *testing.T) {
	code := "c18f112233440252"
	at := func(n int) string {
		from := hex(uint32(0x2200 - n))
		return "map PC=" + from + " @" + from + "=" + code + " "
	}
	for n := 1; n < 8; n++ {
		rowOf(t, nil, 0, code, at(n)+"gone11", "fault 24 2200 0")
		rowOf(t, nil, 0, code, at(n)+"user kernels11", "fault 20 2200 0")
		rowOf(t, nil, 0, code, at(n)+"P0LR=11", "fault 20 2200 1")
	}
	for n := range 9 {
		rowOf(t, make([]byte, 8), 0, code, at(n), "R2=44332213 PC="+hex(uint32(0x2208-n)))
	}
	rowOf(t, make([]byte, 8), 0, code, at(8)+"gone11", "R2=44332213 PC=2200")
	rowOf(t, nil, 0, code, at(0)+"gone11", "fault 24 2200 0")
	rowOf(t, nil, 0, code, at(0)+"user nobodys11", "fault 20 2200 0")
	row(t, "NOP", "PC=4000", "fault 4 0")
	row(t, "NOP", "PC=3fff @3fff=01", "PC=4000")
	row(t, "NOP", "PC=3fff @3fff=d0", "fault 4 0")
	row(t, "NOP", "PC=40000000 map", "fault 20 40000000 1")
	row(t, "NOP", "PC=ffffffff", "fault 4 0")
	row(t, "NOP", "PC=ffffffff map", "fault 20 ffffffff 1")
}
