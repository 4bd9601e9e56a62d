package arch_test

import "testing"

func TestOne(t *testing.T) {
	row(t, "MOVL R2, R1", "R2=80000000 PSL=f", "R1=80000000 PSL=9")
	row(t, "MOVL R2, R1", "R2=0 PSL=e", "R1=0 PSL=4")
	row(t, "MCOML R2, R1", "R2=f PSL=1", "R1=fffffff0 PSL=9")
	row(t, "MCOMB R2, R1", "R2=ff", "R1=a0b0c000 PSL=4")
	row(t, "MCOMW R2, R1", "R2=12348000", "R1=a0b07fff")
	row(t, "MNEGL R2, R1", "R2=1", "R1=ffffffff PSL=9")
	row(t, "MNEGL R2, R1", "R2=0 PSL=f", "R1=0 PSL=4")
	row(t, "MNEGB R2, R1", "R2=80", "R1=a0b0c080 PSL=b")
	row(t, "MNEGW R2, R1", "R2=ffff8001", "R1=a0b07fff PSL=1")
}

func TestOwn(t *testing.T) {
	row(t, "CLRL R1", "PSL=b", "R1=0 PSL=5")
	row(t, "CLRW R1", "PSL=a", "R1=a0b00000 PSL=4")
	row(t, "CLRB (R1)", "R1=2000", "@2000=00 PSL=4")
	row(t, "INCL R1", "R1=7fffffff", "R1=80000000 PSL=a")
	row(t, "INCB R1", "R1=7f", "R1=80 PSL=a")
	row(t, "DECL R1", "R1=80000000 PSL=1", "R1=7fffffff PSL=2")
	row(t, "DECW R1", "R1=50000", "R1=5ffff PSL=9")
	row(t, "DECB R1", "R1=1 PSL=f", "R1=0 PSL=4")
}

func TestTwo(t *testing.T) {
	row(t, "ADDL2 R2, R1", "R1=7fffffff R2=1 PSL=1", "R1=80000000 PSL=a")
	row(t, "ADDB2 R2, R1", "R1=12345680 R2=80", "R1=12345600 PSL=7")
	row(t, "SUBL2 R2, R1", "R1=3 R2=1 PSL=f", "R1=2 PSL=0")
	row(t, "SUBW2 R2, R1", "R1=10003 R2=4", "R1=1ffff PSL=9")
	row(t, "MULL2 R2, R1", "R1=fffffffd R2=5", "R1=fffffff1 PSL=8")
	row(t, "MULB2 R2, R1", "R1=40 R2=4 PSL=1", "R1=0 PSL=6")
	row(t, "DIVL2 R2, R1", "R1=fffffff9 R2=2 PSL=1", "R1=fffffffd PSL=8")
	row(t, "DIVW2 R2, R1", "R1=12340007 R2=fffe", "R1=1234fffd PSL=8")
	row(t, "BISL2 R2, R1", "R1=f0 R2=80000001 PSL=1", "R1=800000f1 PSL=9")
	row(t, "BICW2 R2, R1", "R1=1234ffff R2=ff00 PSL=f", "R1=123400ff PSL=1")
	row(t, "XORB2 R2, R1", "R1=123456ff R2=ff", "R1=12345600 PSL=4")
	row(t, "ADWC R2, R1", "R1=7fffffff R2=0 PSL=1", "R1=80000000 PSL=a")
	row(t, "ADWC R2, R1", "R1=7fffffff R2=0 PSL=e", "R1=7fffffff PSL=0")
	row(t, "ADWC R2, R1", "R1=ffffffff R2=ffffffff PSL=1", "R1=ffffffff PSL=9")
	row(t, "SBWC R2, R1", "R1=0 R2=0 PSL=1", "R1=ffffffff PSL=9")
	row(t, "SBWC R2, R1", "R1=5 R2=3 PSL=1", "R1=1 PSL=0")
	row(t, "SBWC R2, R1", "R1=5 R2=3", "R1=2")
}

func TestThree(t *testing.T) {
	row(t, "ADDL3 R1, R2, R3", "R1=ffffffff R2=1", "R3=0 PSL=5")
	row(t, "ADDW3 R1, R2, R3", "R1=5ffff R2=50001", "R3=a0b00000 PSL=5")
	row(t, "SUBL3 R1, R2, R3", "R1=5 R2=3", "R3=fffffffe PSL=9")
	row(t, "SUBB3 R1, R2, R3", "R1=1 R2=80", "R3=a0b0c07f PSL=2")
	row(t, "MULW3 R1, R2, R3", "R1=ffff R2=ffff", "R3=a0b00001")
	row(t, "MULL3 R1, R2, R3", "R1=10000 R2=10000 PSL=1", "R3=0 PSL=6")
	row(t, "DIVB3 R1, R2, R3", "R1=fe R2=7", "R3=a0b0c0fd PSL=8")
	row(t, "DIVL3 R1, R2, R3", "R1=7 R2=6", "R3=0 PSL=4")
	row(t, "BISB3 R1, R2, R3", "R1=f0 R2=0f PSL=1", "R3=a0b0c0ff PSL=9")
	row(t, "BICL3 R1, R2, R3", "R1=ffff R2=12345678", "R3=12340000")
	row(t, "XORW3 R1, R2, R3", "R1=ffff R2=12345678 PSL=1", "R3=a0b0a987 PSL=9")
}

func TestCodesAlone(t *testing.T) {
	row(t, "TSTL R1", "R1=80000000 PSL=7", "PSL=8")
	row(t, "TSTW R1", "R1=80000000 PSL=b", "PSL=4")
	row(t, "TSTB R1", "R1=ffffff7f PSL=f", "PSL=0")
	row(t, "CMPL R1, R2", "R1=1 R2=2", "PSL=9")
	row(t, "CMPL R1, R2", "R1=1 R2=ffffffff PSL=2", "PSL=1")
	row(t, "CMPL R1, R2", "R1=ffffffff R2=1", "PSL=8")
	row(t, "CMPW R1, R2", "R1=10001 R2=20001 PSL=b", "PSL=4")
	row(t, "CMPB R1, R2", "R1=7f R2=80", "PSL=1")
	row(t, "BITL R1, R2", "R1=f R2=f0 PSL=1", "PSL=5")
	row(t, "BITW R1, R2", "R1=ffff8000 R2=8000 PSL=2", "PSL=8")
	row(t, "BITB R1, R2", "R1=81 R2=1 PSL=f", "PSL=1")
}

func TestDivisionsThatCannotBe(t *testing.T) {
	row(t, "DIVL2 R2, R1", "R1=5 R2=0", "R1=5 PSL=2 trap 34 2")
	row(t, "DIVL2 R2, R1", "R1=80000005 R2=0 PSL=5", "R1=80000005 PSL=a trap 34 2")
	row(t, "DIVB2 R2, R1", "R1=500 R2=100", "R1=500 PSL=6 trap 34 2")
	row(t, "DIVW3 R2, R1, R3", "R1=12345678 R2=ffff0000", "R3=a0b05678 PSL=2 trap 34 2")
	row(t, "DIVW3 #0, (R1)+, -(R1)", "R1=2000 @2000=3412", "PSL=2 trap 34 2")
	row(t, "DIVL3 #0, (R1)+, (R1)+", "R1=2000 @2000=34120000", "R1=2008 @2004=34120000 PSL=2 trap 34 2")
	row(t, "DIVL2 #0, R1", "user R1=5", "PSL=1400002 trap 34 2")
	row(t, "DIVL2 #0, R1", "PSL=150001 R1=5", "PSL=150002 trap 34 2")
	// A result that can't be written is a fault, and no division by nothing any more.
	row(t, "DIVL3 #0, R2, (R1)", "R1=4000", "fault 4 0")
	row(t, "DIVL3 #0, R2, (R1)+", "R1=2000 map read10 user", "fault 20 2000 4")
	// The least number by -1 doesn't fit, which isn't raised.
	row(t, "DIVL2 R2, R1", "R1=80000000 R2=ffffffff PSL=1", "R1=80000000 PSL=a")
	row(t, "DIVB2 R2, R1", "R1=80 R2=ff", "R1=80 PSL=a")
	row(t, "DIVW3 R2, R1, R3", "R1=8000 R2=ffff", "R3=a0b08000 PSL=a")
}

func TestConversions(t *testing.T) {
	row(t, "CVTBW R2, R1", "R2=12345680 PSL=7", "R1=a0b0ff80 PSL=8")
	row(t, "CVTBL R2, R1", "R2=1234567f PSL=1", "R1=7f PSL=0")
	row(t, "CVTWL R2, R1", "R2=12348000", "R1=ffff8000 PSL=8")
	row(t, "CVTWB R2, R1", "R2=1234ff80", "R1=a0b0c080 PSL=8")
	row(t, "CVTWB R2, R1", "R2=1234ff7f", "R1=a0b0c07f PSL=2")
	row(t, "CVTLB R2, R1", "R2=100 PSL=1", "R1=a0b0c000 PSL=6")
	row(t, "CVTLW R2, R1", "R2=ffff7fff", "R1=a0b07fff PSL=2")
	row(t, "CVTLW R2, R1", "R2=ffff8000 PSL=1", "R1=a0b08000 PSL=8")
	row(t, "MOVZBW R2, R1", "R2=12345680 PSL=b", "R1=a0b00080 PSL=1")
	row(t, "MOVZBL R2, R1", "R2=12345680 PSL=a", "R1=80 PSL=0")
	row(t, "MOVZWL R2, R1", "R2=12348000", "R1=8000")
	row(t, "MOVZBL R2, R1", "R2=12345600 PSL=1", "R1=0 PSL=5")
	// A size each: what is read, and what is written, over a page's end.
	row(t, "CVTBL (R2)+, (R1)+", "R1=21fe R2=21ff @21ff=81", "@21fe=81ffffff R1=2202 R2=2200 PSL=8")
	row(t, "CVTLB (R2)+, (R1)+", "map R1=21ff R2=21fe @21fe=81ffffff read11", "@21ff=81 R1=2200 R2=2202 PSL=8 mark10")
	row(t, "CVTLW (R1)+, -(R1)", "R1=2000 @2000=01020304", "R1=2002 @2002=0102 PSL=2")
}

func TestAddressesMoved(t *testing.T) {
	row(t, "MOVAB (R2), R1", "R2=80000000 PSL=7", "R1=80000000 PSL=9")
	row(t, "MOVAW (R2), R1", "R2=0 PSL=a", "R1=0 PSL=4")
	row(t, "MOVAL (R2)+, (R1)", "R1=2000 R2=7ffffffc PSL=f", "@2000=fcffff7f R2=80000000 PSL=1")
	row(t, "PUSHAB (R2)", "R2=80000001 PSL=7", "SP=7fc @7fc=01000080 PSL=9")
	row(t, "PUSHAW (R2)+", "R2=0 PSL=e", "SP=7fc @7fc=00000000 R2=2 PSL=4")
	row(t, "PUSHAL -(R2)", "R2=8", "SP=7fc @7fc=04000000 R2=4")
	row(t, "PUSHAL (SP)", "", "SP=7fc @7fc=00080000")
	row(t, "PUSHAL -(SP)", "", "SP=7f8 @7f8=fc070000")
	row(t, "PUSHL R2", "R2=12345678 PSL=f", "SP=7fc @7fc=78563412 PSL=1")
	row(t, "PUSHL #-1", "", "SP=7fc @7fc=ffffffff PSL=8")
	row(t, "PUSHL #0", "PSL=a", "SP=7fc @7fc=00000000 PSL=4")
	row(t, "PUSHL SP", "", "SP=7fc @7fc=00080000")
	row(t, "PUSHL (SP)", "@800=11223344", "SP=7fc @7fc=11223344")
	row(t, "PUSHL (SP)+", "@800=11223344", "SP=800 @800=11223344")
	row(t, "PUSHL -(SP)", "@7fc=11223344", "SP=7f8 @7f8=11223344")
	row(t, "PUSHL R2", "user SP=902 R2=1", "SP=8fe @8fe=01000000 PSL=1400000")
	row(t, "PUSHL R2", "user SP=4004", "fault 4 0")
	row(t, "PUSHL (R2)+", "map user R2=2000 SP=402 kernels1", "fault 20 3fe 4")
	row(t, "PUSHAB (R2)+", "map user R2=2000 SP=402 gone2 kernels1 PC=2400 @2400=9f82", "fault 20 3fe 4")
}

func TestShifts(t *testing.T) {
	row(t, "ASHL #1, R2, R1", "R2=40000000 PSL=5", "R1=80000000 PSL=a")
	row(t, "ASHL #4, R2, R1", "R2=fffffff1", "R1=ffffff10 PSL=8")
	row(t, "ASHL #-1, R2, R1", "R2=80000001 PSL=1", "R1=c0000000 PSL=8")
	row(t, "ASHL #-40, R2, R1", "R2=7fffffff", "R1=0 PSL=4")
	row(t, "ASHL #40, R2, R1", "R2=1", "R1=0 PSL=6")
	row(t, "ASHL R3, R2, R1", "R3=12345602 R2=3", "R1=c")
	row(t, "ASHL R3, R2, R1", "R3=12345680 R2=3", "R1=0 PSL=4")
	row(t, "ROTL #1, R2, R1", "R2=80000001 PSL=f", "R1=3 PSL=1")
	row(t, "ROTL #-1, R2, R1", "R2=1 PSL=2", "R1=80000000 PSL=8")
	row(t, "ROTL #32, R2, R1", "R2=0", "R1=0 PSL=4")
	row(t, "ROTL R3, R2, R1", "R3=12345604 R2=f0000000 PSL=1", "R1=f PSL=1")
	row(t, "ROTL (R3)+, (R3)+, (R3)+", "R3=2000 @2000=0478563412", "R3=2009 @2005=81674523")
}
