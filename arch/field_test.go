package arch_test

import "testing"

func TestFieldsOfRegisters(t *testing.T) {
	row(t, "EXTZV #4, #8, R1, R2", "R1=12345678 PSL=f", "R2=67 PSL=0")
	row(t, "EXTZV #4, #8, R1, R2", "R1=12345f78", "R2=f7")
	row(t, "EXTV #4, #8, R1, R2", "R1=12345f78 PSL=7", "R2=fffffff7 PSL=8")
	row(t, "EXTV #4, #8, R1, R2", "R1=12345678", "R2=67")
	row(t, "EXTZV #0, #32, R1, R2", "R1=80000001 PSL=3", "R2=80000001 PSL=8")
	row(t, "EXTV #0, #32, R1, R2", "R1=80000001", "R2=80000001 PSL=8")
	row(t, "EXTZV #31, #1, R1, R2", "R1=80000001", "R2=1")
	row(t, "EXTV #31, #1, R1, R2", "R1=80000001", "R2=ffffffff PSL=8")
	row(t, "EXTV #30, #1, R1, R2", "R1=80000001 PSL=1", "R2=0 PSL=4")
	row(t, "INSV R3, #4, #8, R1", "R1=12345678 R3=fffffabc PSL=f", "R1=12345bc8 PSL=f")
	row(t, "INSV R3, #0, #32, R1", "R1=12345678 R3=abcdef01", "R1=abcdef01")
	row(t, "INSV R3, #31, #1, R1", "R1=12345678 R3=1", "R1=92345678")
	row(t, "INSV #0, #0, #1, R1", "R1=ffffffff", "R1=fffffffe")
	row(t, "EXTZV #0, #8, SP, R2", "", "R2=0 PSL=4")
	row(t, "INSV #5, #0, #4, SP", "", "SP=805")
	// The size is a byte, the position a long.
	row(t, "EXTZV #4, R3, R1, R2", "R1=12345678 R3=ffffff08", "R2=67")
	row(t, "EXTZV R3, #8, R1, R2", "R1=12345678 R3=10", "R2=34")
}

func TestFieldsThatCannotBe(t *testing.T) {
	row(t, "EXTZV #0, #33, R1, R2", "", "fault 18")
	row(t, "EXTV #0, #33, @#0x2000, R2", "", "fault 18")
	row(t, "EXTV #0, #-1, @#0x2000, R2", "", "fault 18")
	row(t, "INSV #0, #0, #33, R1", "", "fault 18")
	row(t, "INSV #0, #0, #33, @#0x4000", "", "fault 18")
	row(t, "EXTZV #1, #32, R1, R2", "", "fault 18")
	row(t, "EXTZV #31, #2, R1, R2", "", "fault 18")
	row(t, "EXTZV #32, #1, R1, R2", "", "fault 18")
	row(t, "INSV #0, #25, #8, R1", "", "fault 18")
	row(t, "INSV #0, #-1, #1, R1", "", "fault 18")
	row(t, "EXTZV #-1, #1, R1, R2", "", "fault 18")
	row(t, "EXTZV #-1, #32, R1, R2", "", "fault 18")
	row(t, "EXTV #-31, #32, R1, R2", "", "fault 18")
	row(t, "EXTV #0x80000000, #1, R1, R2", "", "fault 18")
	row(t, "INSV #0, #-32, #32, R1", "", "fault 18")
}

func TestFieldsOfNoBits(t *testing.T) {
	row(t, "EXTZV #0, #0, R1, R2", "R1=ffffffff PSL=b", "R2=0 PSL=4")
	row(t, "EXTV #32, #0, R1, R2", "R1=ffffffff", "R2=0 PSL=4")
	row(t, "EXTV #-1, #0, R1, R2", "R1=ffffffff", "R2=0 PSL=4")
	row(t, "EXTZV #0x7fffffff, #0, R1, R2", "R1=ffffffff", "R2=0 PSL=4")
	row(t, "EXTV #3, #0, @#0x4000, R2", "", "R2=0 PSL=4")
	row(t, "EXTV #3, #0, (R1)+, R2", "map R1=2000 gone10", "R1=2001 R2=0 PSL=4")
	row(t, "INSV #1, #0, #0, R1", "R1=ffffffff PSL=f", "PSL=f")
	row(t, "INSV #1, #99, #0, R1", "R1=ffffffff", "")
	row(t, "INSV #1, #9, #0, @#0x4000", "", "")
	row(t, "INSV #1, #9, #0, (R1)+", "map R1=2000", "R1=2001")
}

func TestFieldsInMemory(t *testing.T) {
	ahead := "R1=2000 @2000=123456789abcdef0"
	row(t, "EXTZV #0, #8, (R1), R2", ahead, "R2=12")
	row(t, "EXTZV #4, #8, (R1), R2", ahead, "R2=41")
	row(t, "EXTZV #4, #32, (R1), R2", ahead, "R2=a7856341 PSL=8")
	row(t, "EXTZV #7, #32, (R1), R2", ahead, "R2=34f0ac68")
	row(t, "EXTV #7, #32, (R1), R2", ahead, "R2=34f0ac68")
	row(t, "EXTZV #32, #8, (R1), R2", ahead, "R2=9a")
	row(t, "EXTV #36, #8, (R1), R2", ahead, "R2=ffffffc9 PSL=8")
	row(t, "EXTZV #-8, #8, 1(R1), R2", ahead, "R2=12")
	row(t, "EXTZV #-4, #8, 1(R1), R2", ahead, "R2=41")
	row(t, "EXTZV #-9, #8, 2(R1), R2", ahead, "R2=68")
	row(t, "EXTZV R3, #8, (R1), R2", "R1=10002000 R3=80000008 @2001=99", "R2=99")
	row(t, "EXTZV R3, #8, (R1), R2", "R1=f0002002 R3=7fffffff @2001=80ff", "R2=ff")
	row(t, "INSV R3, #4, #8, (R1)", ahead+" R3=fffffeab PSL=9", "@2000=b23a PSL=9")
	row(t, "INSV R3, #7, #32, (R1)", ahead+" R3=ffffffff", "@2000=92ffffffff")
	row(t, "INSV R3, #1, #32, (R1)", ahead+" R3=0", "@2000=00000000"+"9a")
	row(t, "INSV R3, #-1, #2, 1(R1)", ahead+" R3=3", "@2000=9235")
	row(t, "INSV #-1, #33, #6, (R1)", ahead, "@2004=fe")
	row(t, "INSV #0, #0, #1, (R1)[R2]", ahead+" R2=1", "@2001=34")
	row(t, "INSV #1, #0, #1, (R1)+", ahead, "@2000=13 R1=2001")
	row(t, "EXTZV (R1)+, (R1)+, (R1)+, (R1)+", "R1=2000 @2000=08000000"+"04"+"00f7", "R1=200a @2006=07000000")
}

// As many bytes are read, and written, as the field has, at once.
func TestFieldsOverPages(t *testing.T) {
	ahead := "map R1=21fc @21fc=11223344 "
	row(t, "EXTZV #0, #32, (R1), R2", ahead+"gone11", "R2=44332211")
	row(t, "EXTZV #1, #32, (R1), R2", ahead+"gone11", "fault 24 2200 0")
	row(t, "EXTZV #1, #31, (R1), R2", ahead+"gone11", "R2=22199108")
	row(t, "EXTZV #31, #2, (R1), R2", ahead+"nobodys11", "fault 20 2200 0")
	row(t, "EXTZV #32, #1, (R1), R2", ahead+"gone10 @2200=01", "R2=1")
	row(t, "EXTZV #31, #2, (R1), R2", ahead+"gone10", "fault 24 21ff 0")
	row(t, "INSV #0, #0, #32, (R1)", ahead+"gone11", "@21fc=00000000 mark10")
	row(t, "INSV #0, #1, #32, (R1)", ahead+"@2200=ff", "@21fc=01000000fe mark10 mark11")
	row(t, "INSV #0, #1, #32, (R1)", "user "+ahead+"read11", "fault 20 2200 4")
	row(t, "INSV #0, #1, #32, (R1)", "user "+ahead+"read10", "fault 20 21fc 4")
	row(t, "INSV #0, #1, #32, (R1)", ahead+"gone11", "fault 24 2200 0")
	row(t, "INSV #0, #32, #1, (R1)", ahead+"gone10 @2200=ff", "@2200=fe mark11")
	row(t, "EXTZV #0, #32, (R1), R2", "R1=3ffc @3ffc=01000000", "R2=1")
	row(t, "EXTZV #0, #32, (R1), R2", "R1=3ffd", "fault 4 0")
	row(t, "EXTZV #0, #24, (R1), R2", "R1=3ffd @3ffd=010000", "R2=1")
	row(t, "EXTZV #-8, #8, (R1), R2", "R1=0", "fault 4 0")
}

// A field is read when all operands are evaluated.
func TestFieldsComeLast(t *testing.T) {
	row(t, "EXTZV #0, #8, R1, (R1)+", "R1=20ff", "R1=2103 @20ff=03000000")
	row(t, "EXTZV #0, #33, R1, (R1)+", "R1=20ff", "fault 18")
	row(t, ".byte 0xef, 0, 0x8f, 33, 0x51, 0x05", "", "fault 1c")
	row(t, ".byte 0xef, 0, 8, 0x9f, 0x00, 0x40, 0, 0, 0x05", "", "fault 1c")
	row(t, "EXTZV #0, #8, (R1), (R2)", "R1=4000 R2=4001", "fault 4 0")
	row(t, "EXTZV #0, #8, (R1), (R2)", "map R1=2000 R2=2200 gone10 gone11", "fault 24 2000 0")
	row(t, "EXTZV #0, #8, (R1), (R2)", "map R1=2000 R2=2200 gone11", "fault 24 2200 4")
}
