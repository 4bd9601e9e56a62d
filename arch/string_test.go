package arch_test

import (
	"fmt"
	"testing"
)

// begin fails unless a string instruction is begun, and all else is as it was.
func begin(t *testing.T, text, ahead, want string) {
	t.Helper()
	row(t, text, ahead, "PC=400 PSL=8000000 "+want)
}

// part fails unless a part of a string instruction, by its code, makes of what is ahead what is wanted: PC and FPD stay, if the words don't say otherwise.
func part(t *testing.T, code, ahead, want string) {
	t.Helper()
	rowOf(t, nil, 0, code, "PSL=8000000 @400="+code+" "+ahead, want)
}

func TestMovesBegin(t *testing.T) {
	begin(t, "MOVC3 #20, @#0x2000, @#0x2003", "", "R0=c000014 R1=2000 R2=14 R3=2003 R4=1 R5=0")
	begin(t, "MOVC3 #20, @#0x2000, @#0x2003", "PSL=5f000f", "PSL=85f000f R0=c000014 R1=2000 R2=14 R3=2003 R4=1 R5=0")
	begin(t, "MOVC3 #20, @#0x2000, @#0x2003", "user", "PSL=9400000 R0=c000014 R1=2000 R2=14 R3=2003 R4=1 R5=0")
	begin(t, "MOVC3 #20, @#0x2000, @#0x2000", "", "R0=c000014 R1=2000 R2=14 R3=2000 R4=0 R5=0")
	begin(t, "MOVC3 #20, @#0x2000, @#0x2013", "", "R0=c000014 R1=2000 R2=14 R3=2013 R4=1 R5=0")
	begin(t, "MOVC3 #20, @#0x2000, @#0x2014", "", "R0=c000014 R1=2000 R2=14 R3=2014 R4=0 R5=0")
	begin(t, "MOVC3 #20, @#0x2000, @#0x1fff", "", "R0=c000014 R1=2000 R2=14 R3=1fff R4=0 R5=0")
	begin(t, "MOVC3 #0, (R6), (R7)", "R6=1 R7=2", "R0=4000000 R1=1 R2=0 R3=2 R4=0 R5=0")
	begin(t, "MOVC3 #1, (R6), (R7)", "R6=1 R7=2", "R0=4000001 R1=1 R2=1 R3=2 R4=0 R5=0")
	begin(t, "MOVC3 #-1, (R6), (R7)", "R6=fffffff0 R7=ffee", "R0=600ffff R1=fffffff0 R2=ffff R3=ffee R4=1 R5=0")
	begin(t, "MOVC3 #-1, (R6), (R7)", "R6=fffffff0 R7=ffef", "R0=600ffff R1=fffffff0 R2=ffff R3=ffef R4=0 R5=0")
	// The operands are evaluated ahead of the registers' new numbers.
	begin(t, "MOVC3 (R1)+, (R1)+, -(R1)", "R1=2000 @2000=3412", "R0=4001234 R1=2002 R2=1234 R3=2002 R4=0 R5=0")
	begin(t, "MOVC3 R2, (R0), (R3)", "R2=ffff0003 R0=11 R3=12", "R0=4000003 R1=11 R2=3 R3=12 R4=1 R5=0")
	begin(t, "MOVC3 (R6)+, (R6)+, (R6)+", "R6=2000 @2000=0500", "R0=4000005 R1=2002 R2=5 R3=2003 R4=1 R5=0 R6=2004")
	begin(t, "MOVC3 (R6)[R7], @(R6)+[R7], @#5[R7]", "R6=2000 R7=2 @2000=00300000 @2004=0500", "R0=b000005 R1=3002 R2=5 R3=7 R4=0 R5=0 R6=2004")
	// Nothing is touched as yet.
	begin(t, "MOVC3 #20, @#0x4000, @#0x40000000", "map", "R0=c000014 R1=4000 R2=14 R3=40000000 R4=0 R5=0")
	row(t, ".byte 0x28, 0x86, 0x86, 0x01", "R6=2000", "fault 1c")
	row(t, "MOVC3 (R6)+, (R6)+, @(R6)+", "R6=3ffa", "fault 4 0")
}

func TestFillsBegin(t *testing.T) {
	begin(t, "MOVC5 #20, @#0x2000, #0x20, #30, @#0x2003", "", "R0=e200014 R1=2000 R2=1e0014 R3=2003 R4=1 R5=a")
	begin(t, "MOVC5 #30, @#0x2000, #0x20, #20, @#0x2003", "", "R0=e200014 R1=2000 R2=14001e R3=2003 R4=1 R5=0")
	begin(t, "MOVC5 #30, @#0x2000, #-1, #20, @#0x2013", "", "R0=fff0014 R1=2000 R2=14001e R3=2013 R4=1 R5=0")
	begin(t, "MOVC5 #30, @#0x2000, #0, #20, @#0x2014", "", "R0=e000014 R1=2000 R2=14001e R3=2014 R4=0 R5=0")
	begin(t, "MOVC5 #0, (R6), #1, #0, (R7)", "R6=1 R7=1", "R0=6010000 R1=1 R2=0 R3=1 R4=0 R5=0")
	begin(t, "MOVC5 #0, (R6), #1, #-1, (R7)", "R6=1 R7=2", "R0=8010000 R1=1 R2=ffff0000 R3=2 R4=0 R5=ffff")
	begin(t, "MOVC5 R6, (R7), R8, R9, (R10)", "R6=abcd0002 R7=10 R8=abcdefab R9=abcd0003 R10=11", "R0=6ab0002 R1=10 R2=30002 R3=11 R4=1 R5=1")
	begin(t, "MOVC5 (R6)+, (R6)+, (R6)+, (R6)+, (R6)+", "R6=2000 @2000=050077083000", "R0=6080005 R1=2002 R2=300005 R3=2006 R4=1 R5=2b R6=2007")
}

func TestComparesBegin(t *testing.T) {
	begin(t, "CMPC3 #20, @#0x2000, @#0x2003", "", "R0=c000014 R1=2000 R2=0 R3=2003")
	begin(t, "CMPC3 #-1, (R3), (R1)", "PSL=f R1=80000000 R3=90000000", "PSL=800000f R0=600ffff R1=90000000 R2=0 R3=80000000")
	begin(t, "CMPC5 #20, @#0x2000, #0x20, #30, @#0x2003", "", "R0=e200014 R1=2000 R2=1e R3=2003")
	begin(t, "CMPC5 R6, (R7), R8, R9, (R10)", "R6=abcd0002 R7=10 R8=abcdefab R9=abcd8003 R10=11", "R0=6ab0002 R1=10 R2=8003 R3=11")
	begin(t, "LOCC #0x20, #20, @#0x2000", "", "R0=8200014 R1=2000")
	begin(t, "SKPC R6, R7, (R8)", "R6=abcdefab R7=abcd8002 R8=80000000 PSL=1f000f", "PSL=81f000f R0=4ab8002 R1=80000000")
	begin(t, "LOCC (R6)+, (R6)+, (R6)+", "R6=2000 @2000=410500", "R0=4410005 R1=2003 R6=2004")
	begin(t, "SKPC #0, #0, (R0)", "R0=7", "R0=4000000 R1=7")
}

const sixteen = "@2000=000102030405060708090a0b0c0d0e0f "

func TestPartsOfMoves(t *testing.T) {
	ahead := sixteen + "R1=2000 R2=10 R3=2100 R4=0 "
	part(t, "28", ahead+"R0=c000010", "R0=c000008 @2100=0001020304050607")
	part(t, "28", ahead+"R0=c00000c", "R0=c000004 @2104=0405060708090a0b")
	part(t, "28", ahead+"R0=c000009", "R0=c000001 @2107=0708090a0b0c0d0e")
	part(t, "28", ahead+"R0=c000008", "R0=0 R1=2010 R2=0 R3=2110 R4=0 R5=0 @2108=08090a0b0c0d0e0f PC=40c PSL=4")
	part(t, "28", ahead+"R0=ff000001 PSL=80f000b", "R0=0 R1=2010 R2=0 R3=2110 R4=0 R5=0 @210f=0f PC=4ff PSL=f0004")
	part(t, "28", ahead+"R0=c000000 PSL=9400000", "R0=0 R1=2010 R2=0 R3=2110 R4=0 R5=0 PC=40c PSL=1400004")
	part(t, "28", ahead+"R0=0", "R0=0 R1=2010 R2=0 R3=2110 R4=0 R5=0 PSL=4")
	// The other way round, the last bytes first.
	odd := sixteen + "R1=2000 R2=10 R3=2100 R4=1 "
	part(t, "28", odd+"R0=c000010", "R0=c000008 @2108=08090a0b0c0d0e0f")
	part(t, "28", odd+"R0=c00000c", "R0=c000004 @2104=0405060708090a0b")
	part(t, "28", odd+"R0=c000009", "R0=c000001 @2101=0102030405060708")
	part(t, "28", odd+"R0=c000003 R4=ffffffff", "R0=0 R1=2010 R2=0 R3=2110 R4=0 R5=0 @2100=000102 PC=40c PSL=4")
	part(t, "28", odd+"R0=c000009 R4=fffffffe", "R0=c000001 R4=fffffffe @2107=0708090a0b0c0d0e")
	// All is read ahead of what is written.
	part(t, "28", ahead+"R0=c000010 R3=2003", "R0=c000008 @2003=0001020304050607")
	part(t, "28", ahead+"R0=c000010 R1=2003 R3=2000", "R0=c000008 @2000=030405060708090a")
	// Of R2 the lowest bits alone play a part; R0's byte plays none.
	part(t, "28", ahead+"R0=cff0010 R2=abcd0010", "R0=cff0008 @2100=0001020304050607")
	part(t, "28", ahead+"R0=cff0001 R2=abcd0001", "R0=0 R1=2001 R2=0 R3=2101 R4=0 R5=0 @2100=00 PC=40c PSL=4")
	part(t, "28", ahead+"R0=c000011", "fault 18")
	part(t, "28", ahead+"R0=c00ffff R2=abcdfffe", "fault 18")
	part(t, "28", ahead+"R0=c000001 R2=ffff0000", "fault 18")
	part(t, "28", ahead+"R0=c00ffff R2=ffff", "R0=c00fff7 @2100=0001020304050607")
	// Addresses go round.
	part(t, "28", sixteen+"R0=c000008 R1=80002000 R2=8 R3=80002008 R4=0 map SBR=3000 SLR=20", "R0=0 R1=80002008 R2=0 R3=80002010 R4=0 R5=0 @2008=0001020304050607 mark10 PC=40c PSL=4")
	part(t, "28", sixteen+"R0=c000008 R1=ffff2010 R2=fff8 R3=ffff2108 R4=0", "R0=0 R1=2008 R2=0 R3=2100 R4=0 R5=0 @20f8=0001020304050607 PC=40c PSL=4")
}

func TestPartsOfFills(t *testing.T) {
	ahead := sixteen + "R0=c2a0000 R1=2000 R2=180010 R3=2100 R4=0 R5=8 "
	part(t, "2c", ahead+"R0=c2a0010", "R0=c2a0008 @2100=0001020304050607")
	part(t, "2c", ahead+"R0=c2a0003", "R0=c2a0000 @210d=0d0e0f")
	part(t, "2c", ahead+"R0=c2a0010 R4=3", "R0=c2a0008 @2108=08090a0b0c0d0e0f")
	part(t, "2c", ahead+"R0=c2a0009 R4=3", "R0=c2a0001 @2101=0102030405060708")
	part(t, "2c", ahead, "R0=0 R1=2010 R2=0 R3=2118 R4=0 R5=0 @2110=2a2a2a2a2a2a2a2a PC=40c PSL=9")
	part(t, "2c", ahead+"R5=3", "R0=0 R1=2010 R2=0 R3=2118 R4=0 R5=0 @2115=2a2a2a PC=40c PSL=9")
	part(t, "2c", ahead+"R2=200010 R5=10", "R5=8 @2110=2a2a2a2a2a2a2a2a")
	part(t, "2c", ahead+"R2=200010 R5=9", "R5=1 @2117=2a2a2a2a2a2a2a2a")
	part(t, "2c", ahead+"R5=0", "R0=0 R1=2010 R2=0 R3=2118 R4=0 R5=0 PC=40c PSL=9")
	// More than there is room for; just as many.
	part(t, "2c", ahead+"R0=c2a0001 R2=100018 R5=0", "R0=8 R1=2010 R2=0 R3=2110 R4=0 R5=0 @210f=0f PC=40c PSL=0")
	part(t, "2c", ahead+"R0=c2a0001 R2=100010 R5=0", "R0=0 R1=2010 R2=0 R3=2110 R4=0 R5=0 @210f=0f PC=40c PSL=4")
	part(t, "2c", ahead+"R0=c2a0000 R2=8000 R5=0", "R0=8000 R1=2000 R2=0 R3=2100 R4=0 R5=0 PC=40c PSL=8")
	part(t, "2c", ahead+"R0=c2a0000 R2=80007fff R5=0", "R0=0 R1=9fff R2=0 R3=a100 R4=0 R5=0 PC=40c PSL=1")
	part(t, "2c", ahead+"R0=5000000 R2=0 R5=0 PSL=9400008", "R0=0 R2=0 R4=0 R5=0 PC=405 PSL=1400004")
	// What is left to be moved comes ahead of what is filled, and never at once.
	part(t, "2c", ahead+"R0=c2a0001", "R0=c2a0000 @210f=0f")
	part(t, "2c", ahead+"R0=c2a0011", "fault 18")
	part(t, "2c", ahead+"R0=c2a0011 R2=100018 R5=0", "fault 18")
	part(t, "2c", ahead+"R5=9", "fault 18")
	part(t, "2c", ahead+"R5=80000000", "fault 18")
	part(t, "2c", ahead+"R5=10008", "fault 18")
	part(t, "2c", ahead+"R2=100018 R5=1", "fault 18")
	part(t, "2c", ahead+"R0=c2a0010 R5=9", "fault 18")
	part(t, "2c", ahead+"R0=c2a0010 R5=4", "R0=c2a0008 R5=4 @2100=0001020304050607")
}

func TestPartsOfCompares(t *testing.T) {
	ahead := sixteen + "@2100=000102030405060708090a0b0c0d0e0f R0=c000010 R1=2000 R2=77 R3=2100 "
	part(t, "29", ahead, "R0=c000008 R1=2008 R3=2108")
	part(t, "29", ahead+"R0=c000009", "R0=c000001 R1=2008 R3=2108")
	part(t, "29", ahead+"R0=c000008", "R0=0 R1=2008 R2=0 R3=2108 PC=40c PSL=4")
	part(t, "29", ahead+"R0=c000000 PSL=80f000b", "R0=0 R2=0 PC=40c PSL=f0004")
	part(t, "29", ahead+"@2003=02", "R0=d R1=2003 R2=d R3=2103 PC=40c PSL=9")
	part(t, "29", ahead+"@2003=04", "R0=d R1=2003 R2=d R3=2103 PC=40c PSL=0")
	part(t, "29", ahead+"@2003=83", "R0=d R1=2003 R2=d R3=2103 PC=40c PSL=8")
	part(t, "29", ahead+"@2103=83", "R0=d R1=2003 R2=d R3=2103 PC=40c PSL=1")
	part(t, "29", ahead+"@2007=ff R0=cff0008", "R0=1 R1=2007 R2=1 R3=2107 PC=40c PSL=8")
	part(t, "29", ahead+"@2008=ff R0=cff0008", "R0=0 R1=2008 R2=0 R3=2108 PC=40c PSL=4")
	part(t, "29", ahead+"@2000=ff PSL=9400000", "R0=10 R2=10 PC=40c PSL=1400008")
	// Those of two lengths.
	of := ahead + "R0=c2a0010 R2=10 "
	part(t, "2d", of, "R0=c2a0008 R1=2008 R2=8 R3=2108")
	part(t, "2d", of+"R2=abcd0010", "R0=c2a0008 R1=2008 R2=abcd0008 R3=2108")
	part(t, "2d", of+"R2=4", "R0=c R1=2004 R2=0 R3=2104 PC=40c PSL=9")
	part(t, "2d", of+"R2=4 @2004=2a2a2a2a", "R0=c2a0008 R1=2008 R2=0 R3=2104")
	part(t, "2d", of+"R2=4 @2004=2a2a2a2b", "R0=9 R1=2007 R2=0 R3=2104 PC=40c PSL=0")
	part(t, "2d", of+"R2=0 R0=c2a0003 @2000=2a2a2a", "R0=0 R1=2003 R2=0 PC=40c PSL=4")
	part(t, "2d", of+"R2=0 R0=c2a0003 @2000=2a2a29", "R0=1 R1=2002 R2=0 PC=40c PSL=9")
	part(t, "2d", of+"R0=c2a0004", "R0=0 R1=2004 R2=c R3=2104 PC=40c PSL=0")
	part(t, "2d", of+"R0=c2a0004 @2104=2a2a2a2a", "R0=c2a0000 R1=2004 R2=8 R3=2108")
	part(t, "2d", of+"R0=c2a0000 @2100=2a2a2a2a2a2a2a2a", "R0=c2a0000 R2=8 R3=2108")
	part(t, "2d", of+"R0=c2a0000 R2=abcd0002 @2100=2a2a", "R0=0 R2=0 R3=2102 PC=40c PSL=4")
	part(t, "2d", of+"R0=c2a0000 R2=abcd0002 @2100=2aaa", "R0=0 R2=1 R3=2101 PC=40c PSL=1")
	part(t, "2d", of+"R0=c2a0000 R2=0", "R0=0 PC=40c PSL=4")
	part(t, "2d", of+"R0=c2a0000 R2=abcd0000", "R0=0 R2=0 PC=40c PSL=4")
	part(t, "2d", of+"R0=7ffffff R2=ffff", "R0=7fffff7 R1=2008 R2=fff7 R3=2108 PC=400")
}

func TestPartsOfSearches(t *testing.T) {
	ahead := sixteen + "R0=c2a0010 R1=2000 "
	part(t, "3a", ahead, "R0=c2a0008 R1=2008")
	part(t, "3a", ahead+"@2008=2a", "R0=c2a0008 R1=2008")
	part(t, "3a", ahead+"@2007=2a", "R0=9 R1=2007 PC=40c PSL=0")
	part(t, "3a", ahead+"@2003=2a2a PSL=80f000f", "R0=d R1=2003 PC=40c PSL=f0000")
	part(t, "3a", ahead+"@2000=2a", "R0=10 PC=40c PSL=0")
	part(t, "3a", ahead+"R0=c2a0008", "R0=0 R1=2008 PC=40c PSL=4")
	part(t, "3a", ahead+"R0=c2a0008 @2007=2a", "R0=1 R1=2007 PC=40c PSL=0")
	part(t, "3a", ahead+"R0=c2a0008 @2008=2a", "R0=0 R1=2008 PC=40c PSL=4")
	part(t, "3a", ahead+"R0=c2a0000", "R0=0 PC=40c PSL=4")
	part(t, "3a", ahead+"R0=c000010", "R0=10 PC=40c PSL=0")
	same := "@2000=2a2a2a2a2a2a2a2a2a2a R0=c2a000a R1=2000 "
	part(t, "3b", same, "R0=c2a0002 R1=2008")
	part(t, "3b", same+"@2003=2b PSL=800000f", "R0=7 R1=2003 PC=40c PSL=0")
	part(t, "3b", same+"@2000=00", "R0=a PC=40c PSL=0")
	part(t, "3b", same+"R0=c2a0002", "R0=0 R1=2002 PC=40c PSL=4")
	part(t, "3b", same+"R0=c2a0000 PSL=9400009", "R0=0 PC=40c PSL=1400004")
	part(t, "3b", same+"R0=c2a0002 @2001=00", "R0=1 R1=2001 PC=40c PSL=0")
	part(t, "3b", same+"R0=c2b0002", "R0=2 PC=40c PSL=0")
}

// A fault of a part is one of its own bytes alone, and leaves all as it was.
func TestFaultsOfParts(t *testing.T) {
	move := "map user PSL=9400000 R0=c000010 R1=21f8 R2=10 R3=23f8 R4=0 "
	part(t, "28", move+"gone12", "R0=c000008 @23f8="+pattern(0x21f8, 8)+" mark11")
	part(t, "28", move+"R0=c000008 gone11", "fault 24 2200 0")
	part(t, "28", move+"R0=c000008 gone12", "fault 24 2400 4")
	part(t, "28", move+"R0=c000008 read12", "fault 20 2400 4")
	part(t, "28", move+"R0=c00000c gone11", "fault 24 2200 0")
	part(t, "28", move+"R0=c00000c gone12", "fault 24 2400 4")
	part(t, "28", move+"R0=c00000c read11", "fault 20 23fc 4")
	part(t, "28", move+"R4=1 gone10", "R0=c000008 @2400="+pattern(0x2200, 8)+" mark12")
	part(t, "2c", move+"R0=c2a0000 R2=200010 R5=8 read12", "fault 20 2410 4")
	part(t, "2c", move+"R0=c2a0000 R2=100000 R5=c read12", "fault 20 2400 4")
	part(t, "2c", move+"R0=c2a0000 R2=100000 R5=c nobodys10", "R5=4 @23fc=2a2a2a2a2a2a2a2a mark11 mark12")
	part(t, "2c", move+"R0=c2a0009 R2=200010 R5=10 gone11", "fault 24 2200 0")
	part(t, "29", move+"R1=21fc R3=23fc gone11 gone12", "fault 24 2200 0")
	part(t, "29", move+"R1=21fc R3=23fc gone12", "fault 24 2400 0")
	part(t, "29", move+"R1=21fc R3=23fc nobodys11", "fault 20 2200 0")
	part(t, "29", move+"R0=c000000 R1=21fc R3=23fc gone10 gone11", "R0=0 R2=0 R1=21fc R3=23fc PC=40c PSL=1400004")
	part(t, "2d", move+"R0=c2a0000 R2=0 R1=4000 R3=4000", "R0=0 PC=40c PSL=1400004")
	part(t, "2d", move+"R0=c2a0000 R2=1 R1=4000 R3=4000", "fault 20 4000 1")
	part(t, "2d", move+"R0=c2a0001 R2=0 R1=4000 R3=4000", "fault 20 4000 1")
	part(t, "3a", move+"R1=21fc gone11", "fault 24 2200 0")
	part(t, "3a", move+"R1=21fc R0=c2a0004 @21fc=00000000 gone11", "R0=0 R1=2200 PC=40c PSL=1400004")
	part(t, "3b", move+"R1=3ffd", "fault 20 4000 1")
	part(t, "3b", move+"R0=c000003 R1=3ffd @3ffd=000000", "R0=0 R1=4000 PC=40c PSL=1400004")
	// The instruction's own byte.
	part(t, "28", move+"PC=3fff @3fff=28", "PC=3fff R0=c000008 @23f8="+pattern(0x21f8, 8)+" mark11")
	part(t, "28", move+"PC=4000", "fault 20 4000 1")
}

// pattern: n bytes of a plain world.
func pattern(at, n int) string { return fmt.Sprintf("%x", plain(nil).mem[at:at+n]) }
