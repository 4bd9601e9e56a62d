package arch_test

import (
	"fmt"
	"testing"
)

func TestBranchesAlways(t *testing.T) {
	row(t, ".byte 0x11, 5", "PSL=f", "PC=407 PSL=f")
	row(t, ".byte 0x11, 0", "", "PC=402")
	row(t, ".byte 0x11, 0x7f", "", "PC=481")
	row(t, ".byte 0x11, 0x80", "", "PC=382")
	row(t, ".byte 0x11, 0xfe", "", "PC=400")
	row(t, ".byte 0x31, 0x00, 0x01", "", "PC=503")
	row(t, ".byte 0x31, 0xff, 0x7f", "", "PC=8402")
	row(t, ".byte 0x31, 0x00, 0x80", "", "PC=ffff8403")
	row(t, ".byte 0x31, 0xfd, 0xff", "", "PC=400")
}

// taken: by which codes each branch is, by hand: N 8, Z 4, V 2, C 1.
func taken(code int, codes uint32) bool {
	n, z, v, c := codes&8 != 0, codes&4 != 0, codes&2 != 0, codes&1 != 0
	return map[int]bool{
		0x12: !z, 0x13: z, 0x14: !(n || z), 0x15: n || z, 0x18: !n, 0x19: n,
		0x1a: !(c || z), 0x1b: c || z, 0x1c: !v, 0x1d: v, 0x1e: !c, 0x1f: c,
	}[code]
}

func TestBranchesOnCodes(t *testing.T) {
	for _, code := range []int{0x12, 0x13, 0x14, 0x15, 0x18, 0x19, 0x1a, 0x1b, 0x1c, 0x1d, 0x1e, 0x1f} {
		for codes := range uint32(16) {
			ahead := "PSL=" + hex(codes)
			up, down := "PC=402", "PC=402"
			if taken(code, codes) {
				up, down = "PC=481", "PC=382"
			}
			row(t, fmt.Sprintf(".byte %d, 0x7f", code), ahead, up)
			row(t, fmt.Sprintf(".byte %d, 0x80", code), ahead, down)
		}
	}
}

func TestBranchesOnLowestBits(t *testing.T) {
	row(t, ".byte 0xe8, 0x51, 0x10", "R1=1", "PC=413")
	row(t, ".byte 0xe8, 0x51, 0x10", "R1=fffffffe", "PC=403")
	row(t, ".byte 0xe8, 0x51, 0xf0", "R1=ffffffff PSL=f", "PC=3f3 PSL=f")
	row(t, ".byte 0xe9, 0x51, 0x10", "R1=1", "PC=403")
	row(t, ".byte 0xe9, 0x51, 0x10", "R1=fffffffe", "PC=413")
	row(t, ".byte 0xe9, 0x81, 0xf0", "R1=2000 @2000=02010101", "PC=3f3 R1=2004")
}

func TestBranchesOnBits(t *testing.T) {
	row(t, ".byte 0xe0, 0, 0x51, 0x10", "R1=1", "PC=414")
	row(t, ".byte 0xe0, 0, 0x51, 0x10", "R1=fffffffe", "PC=404")
	row(t, ".byte 0xe1, 0, 0x51, 0x10", "R1=1", "PC=404")
	row(t, ".byte 0xe1, 0, 0x51, 0xf0", "R1=fffffffe PSL=f", "PC=3f4 PSL=f")
	row(t, ".byte 0xe0, 31, 0x51, 0x10", "R1=80000000", "PC=414")
	row(t, ".byte 0xe1, 31, 0x51, 0x10", "R1=80000000", "PC=404")
	row(t, ".byte 0xe0, 32, 0x51, 0x10", "R1=80000001", "fault 18")
	row(t, ".byte 0xe1, 32, 0x51, 0x10", "R1=0", "fault 18")
	row(t, ".byte 0xe0, 0x52, 0x51, 0x10", "R1=80000001 R2=ffffffff", "fault 18")
	row(t, ".byte 0xe1, 0x52, 0x51, 0x10", "R1=80000001 R2=80000000", "fault 18")
	row(t, ".byte 0xe0, 7, 0x61, 0x10", "R1=2000 @2000=80", "PC=414")
	row(t, ".byte 0xe0, 6, 0x61, 0x10", "R1=2000 @2000=80", "PC=404")
	row(t, ".byte 0xe0, 8, 0x61, 0x10", "R1=2000 @2000=ff01", "PC=414")
	row(t, ".byte 0xe0, 9, 0x61, 0x10", "R1=2000 @2000=ff01", "PC=404")
	row(t, ".byte 0xe0, 0x52, 0x61, 0x10", "R1=2000 R2=ffffffff @1fff=8000", "PC=414")
	row(t, ".byte 0xe0, 0x52, 0x61, 0x10", "R1=2000 R2=fffffff8 @1fff=01", "PC=414")
	row(t, ".byte 0xe0, 0x52, 0x61, 0x10", "R1=2000 R2=fffffff7 @1ffe=80fe", "PC=414")
	row(t, ".byte 0xe0, 0x52, 0x61, 0x10", "R1=10002000 R2=80000003 @2000=08", "PC=414")
	row(t, ".byte 0xe0, 0x52, 0x61, 0x10", "R1=f0002001 R2=7fffffff @2000=80", "PC=414")
	// One byte alone is read, and just that one.
	row(t, ".byte 0xe0, 7, 0x61, 0x10", "map R1=21ff gone11 @21ff=80", "PC=414")
	row(t, ".byte 0xe0, 8, 0x61, 0x10", "map R1=21ff gone11", "fault 24 2200 0")
	row(t, ".byte 0xe0, 8, 0x81, 0x10", "map R1=21ff gone10 @2200=01", "PC=414 R1=2200")
	row(t, ".byte 0xe0, 8, 0x61, 0x10", "R1=3fff", "fault 4 0")
}

func TestSubroutines(t *testing.T) {
	row(t, ".byte 0x10, 5", "PSL=f", "PC=407 SP=7fc @7fc=02040000 PSL=f")
	row(t, ".byte 0x10, 0xf0", "", "PC=3f2 SP=7fc @7fc=02040000")
	row(t, ".byte 0x30, 0xf0, 0xff", "", "PC=3f3 SP=7fc @7fc=03040000")
	row(t, ".byte 0x30, 0x00, 0x02", "user", "PC=603 SP=7fc @7fc=03040000")
	row(t, "BSBB to\nto:", "SP=4004", "HALT=2 vector 4")
	row(t, "BSBB to\nto:", "user SP=4004", "fault 4 0")
	row(t, "BSBB to\nto:", "map user SP=204 read1", "fault 20 200 4")
	row(t, "BSBB to\nto:", "map user SP=202 read1", "fault 20 200 4")
	row(t, "JSB (R1)", "R1=2345 PSL=f", "PC=2345 SP=7fc @7fc=02040000 PSL=f")
	row(t, "JSB @#0x12345678", "", "PC=12345678 SP=7fc @7fc=06040000")
	row(t, "JSB (R1)+", "R1=2345", "PC=2345 R1=2346 SP=7fc @7fc=02040000")
	row(t, "JSB @(SP)+", "@800=45230000", "PC=2345 SP=800 @800=02040000")
	row(t, "JSB -(SP)", "", "PC=7ff SP=7fb @7fb=02040000")
	row(t, "JSB (R1)+", "user R1=2345 SP=4004", "fault 4 0")
	row(t, "JMP (R1)", "R1=2345 PSL=f", "PC=2345 PSL=f")
	row(t, "JMP @(R1)+", "R1=2000 @2000=45230000", "PC=2345 R1=2004")
	row(t, "JMP 4(R1)[R2]", "R1=2000 R2=1", "PC=2005")
	row(t, "RSB", "@800=45230000 PSL=f", "PC=2345 SP=804 PSL=f")
	row(t, "RSB", "user SP=2002 @2002=45230000", "PC=2345 SP=2006")
	row(t, "RSB", "SP=3ffd", "fault 4 0")
	row(t, "RSB", "map SP=5fe gone3", "fault 24 600 0")
}

func TestCountsUp(t *testing.T) {
	aob := func(code, displacement int) string {
		return fmt.Sprintf(".byte %d, 0x51, 0x52, %d", code, displacement)
	}
	row(t, aob(0xf2, 0x10), "R1=5 R2=3", "R2=4 PC=414")
	row(t, aob(0xf2, 0x10), "R1=5 R2=4", "R2=5 PC=404")
	row(t, aob(0xf2, 0xf0), "R1=5 R2=fffffffe PSL=7", "R2=ffffffff PC=3f4 PSL=9")
	row(t, aob(0xf2, 0xf0), "R1=5 R2=ffffffff PSL=a", "R2=0 PC=3f4 PSL=4")
	row(t, aob(0xf2, 0x10), "R1=5 R2=7fffffff PSL=1", "R2=80000000 PC=414 PSL=b")
	row(t, aob(0xf2, 0x10), "R1=80000000 R2=7fffffff", "R2=80000000 PC=404 PSL=a")
	row(t, aob(0xf2, 0x10), "R1=fffffffb R2=5", "R2=6 PC=404")
	row(t, aob(0xf3, 0x10), "R1=5 R2=4", "R2=5 PC=414")
	row(t, aob(0xf3, 0x10), "R1=5 R2=5", "R2=6 PC=404")
	row(t, aob(0xf3, 0x10), "R1=5 R2=3", "R2=4 PC=414")
	row(t, aob(0xf3, 0x10), "R1=7fffffff R2=7ffffffe PSL=1", "R2=7fffffff PC=414 PSL=1")
	row(t, aob(0xf3, 0x10), "R1=7fffffff R2=7fffffff", "R2=80000000 PC=414 PSL=a")
	row(t, ".byte 0xf2, 0x81, 0x81, 0x10", "R1=2000 @2000=0500000003000000", "R1=2008 @2004=04000000 PC=414")
	row(t, ".byte 0xf2, 0x51, 0x62, 0x10", "map user R1=5 R2=2000 read10", "fault 20 2000 4")
	// The bound is read ahead of the count that is written over it.
	row(t, ".byte 0xf3, 0x51, 0x51, 0x10", "R1=5", "R1=6 PC=404")
}

func TestCountsDown(t *testing.T) {
	sob := func(code, displacement int) string { return fmt.Sprintf(".byte %d, 0x51, %d", code, displacement) }
	row(t, sob(0xf4, 0x10), "R1=1 PSL=b", "R1=0 PC=413 PSL=5")
	row(t, sob(0xf4, 0x10), "R1=0 PSL=1", "R1=ffffffff PC=403 PSL=9")
	row(t, sob(0xf4, 0xf0), "R1=7fffffff", "R1=7ffffffe PC=3f3")
	row(t, sob(0xf4, 0x10), "R1=80000000", "R1=7fffffff PC=413 PSL=2")
	row(t, sob(0xf5, 0x10), "R1=1", "R1=0 PC=403 PSL=4")
	row(t, sob(0xf5, 0x10), "R1=2", "R1=1 PC=413")
	row(t, sob(0xf5, 0x10), "R1=0", "R1=ffffffff PC=403 PSL=8")
	row(t, sob(0xf5, 0xf0), "R1=80000000 PSL=1", "R1=7fffffff PC=3f3 PSL=3")
	row(t, ".byte 0xf5, 0x71, 0x10", "R1=2004 @2000=03000000", "R1=2000 @2000=02000000 PC=413")
	row(t, ".byte 0xf4, 0x61, 0x10", "map user R1=2000 read10", "fault 20 2000 4")
}
