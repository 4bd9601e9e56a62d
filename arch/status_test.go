package arch_test

import (
	"fmt"
	"testing"

	"camshaft/api"
	"camshaft/psl"
)

func TestHalt(t *testing.T) {
	row(t, "HALT", "", "HALT=1")
	row(t, "HALT", "PSL=5f000f", "HALT=1 PSL=5f000f")
	row(t, "HALT", "user", "fault 10")
	row(t, "NOP", "PSL=f", "PSL=f")
	row(t, "NOP", "user", "")
}

func TestCodesThatAreNone(t *testing.T) {
	is := map[int]bool{}
	for _, code := range codes() {
		is[code] = true
	}
	for code := range 256 {
		if !is[code] {
			rowOf(t, []byte{byte(code), 0, 0, 0, 0}, 0, hex(uint32(code)), "", "fault 10")
			// Nothing behind the byte is looked at.
			rowOf(t, nil, 0, hex(uint32(code)), fmt.Sprintf("user PC=3fff @3fff=%02x", code), "fault 10")
		}
	}
}

// With FPD there is none but the strings.
func TestCodesWithinStrings(t *testing.T) {
	for _, code := range codes() {
		switch code {
		case 0x28, 0x29, 0x2c, 0x2d, 0x3a, 0x3b:
		default:
			rowOf(t, nil, 0, hex(uint32(code)), fmt.Sprintf("PSL=8000000 PC=3fff @3fff=%02x", code), "fault 10")
		}
	}
}

func TestBreaksAndChanges(t *testing.T) {
	row(t, "BPT", "PSL=f", "fault 2c")
	row(t, "BPT", "user", "fault 2c")
	row(t, "CHMK #5", "PSL=f", "trap 40 5")
	row(t, "CHMK #-2", "user", "trap 40 fffffffe")
	row(t, "CHMK #0x7fff", "user", "trap 40 7fff")
	row(t, "CHMK R1", "R1=12348000 PSL=60003", "trap 40 ffff8000")
	row(t, "CHMK (R1)+", "R1=2000 @2000=feffff", "R1=2002 trap 40 fffffffe")
	row(t, "CHMK (SP)+", "user @800=0100", "SP=802 trap 40 1")
	row(t, "CHMK (SP)+", "@800=0100", "SP=802 trap 40 1")
	row(t, "CHMK (R1)+", "R1=3fff", "fault 4 0")
}

func TestStatusMoved(t *testing.T) {
	row(t, "MOVPSL R1", "PSL=5f000f", "R1=5f000f PSL=5f000f")
	row(t, "MOVPSL -(R1)", "user R1=2004", "R1=2000 @2000=00004001")
	row(t, "MOVPSL (R1)", "user R1=4000", "fault 4 0")
	row(t, "BISPSW #5", "PSL=5f0002", "PSL=5f0007")
	row(t, "BISPSW #0", "PSL=5f0002", "PSL=5f0002")
	row(t, "BISPSW #15", "user", "PSL=140000f")
	row(t, "BISPSW #16", "", "fault 18")
	row(t, "BISPSW #-1", "", "fault 18")
	row(t, "BISPSW R1", "R1=ffff000f", "PSL=f")
	row(t, "BISPSW R1", "R1=8000", "fault 18")
	row(t, "BICPSW #5", "PSL=5f000f", "PSL=5f000a")
	row(t, "BICPSW #15", "user PSL=140000f", "PSL=1400000")
	row(t, "BICPSW #31", "PSL=f", "fault 18")
	row(t, "BICPSW (R1)+", "R1=2000 @2000=1000", "fault 18")
	row(t, "BICPSW (R1)+", "PSL=f R1=2000 @2000=0c00", "R1=2002 PSL=3")
}

func TestProcessorRegistersWritten(t *testing.T) {
	for _, x := range []struct {
		n    int
		name string
	}{{api.RegUSP, "USP"}, {api.RegP0BR, "P0BR"}, {api.RegP0LR, "P0LR"}, {api.RegSBR, "SBR"}, {api.RegSLR, "SLR"}, {api.RegSCBB, "SCBB"}, {api.RegMAPEN, "MAPEN"}, {api.RegKSP, "SP"}} {
		text := fmt.Sprintf("MTPR R1, #%d", x.n)
		row(t, text, "R1=12345678 PSL=f", x.name+"=12345678 PSL=1")
		row(t, text, "R1=80000000 PSL=6", x.name+"=80000000 PSL=8")
		row(t, text, "R1=0", x.name+"=0 PSL=4")
	}
	row(t, "MTPR R1, #18", "R1=12345678 PSL=3000f", "PSL=180001")
	row(t, "MTPR R1, #18", "R1=ffffffe0 PSL=1f0000", "PSL=8")
	row(t, "MTPR R1, #57", "R1=0 PSL=b", "PSL=5")
	row(t, "MTPR R1, #58", "R1=2000 PSL=f", "PSL=1")
	row(t, "MTPR (SP)+, #0", "@800=78563412", "SP=12345678")
	row(t, "MTPR (SP)+, (SP)+", "@800=7856341203000000", "SP=808 USP=12345678")
	row(t, "MTPR #1, R2", "R2=11", "SCBB=1")
	row(t, "MTPR #1, R2", "R2=111", "fault 18")
}

// isRegister: whether a processor register can be written; and read.
func isRegister(n int) (bool, bool) {
	switch n {
	case 0, 3, 8, 9, 12, 13, 17, 18, 56:
		return true, true
	case 57, 58:
		return true, false
	}
	return false, false
}

func TestProcessorRegistersThatAreNone(t *testing.T) {
	numbers := []int{256, 257, 1 << 16, 1<<16 + 3, 1<<24 + 17, 1 << 31, 1<<31 + 8, 1<<32 - 1, 1<<32 - 256, 18 + 1<<8}
	for n := range 256 {
		numbers = append(numbers, n)
	}
	for _, n := range numbers {
		written, read := isRegister(n)
		if !written {
			row(t, "MTPR #1, R2", "R2="+hex(uint32(n)), "fault 18")
			row(t, "MTPR (R1)+, R2", "R1=2000 R2="+hex(uint32(n)), "fault 18")
		}
		if !read {
			row(t, "MFPR R2, R1", "R2="+hex(uint32(n)), "fault 18")
			row(t, "MFPR R2, (R1)+", "R1=4000 R2="+hex(uint32(n)), "fault 18")
		}
	}
}

func TestProcessorRegistersRead(t *testing.T) {
	ahead := "KSP=1 USP=2 P0BR=3 P0LR=4 SBR=5 SLR=6 SCBB=80000000 SP=12345678 PSL=130002 "
	for _, x := range []struct {
		n        int
		x, codes uint32
	}{{0, 0x12345678, 0}, {3, 2, 0}, {8, 3, 0}, {9, 4, 0}, {12, 5, 0}, {13, 6, 0}, {17, 0x80000000, psl.N}, {18, 0x13, 0}, {56, 0, psl.Z}} {
		row(t, fmt.Sprintf("MFPR #%d, R1", x.n), ahead, fmt.Sprintf("R1=%x PSL=%x", x.x, 0x130000|x.codes))
		row(t, fmt.Sprintf("MFPR #%d, @#0x2000", x.n), ahead+"PSL=130003", fmt.Sprintf("@2000=%s PSL=%x", longs(x.x), 0x130001|x.codes))
	}
	row(t, "MFPR #0, -(SP)", "", "SP=7fc @7fc=fc070000")
	row(t, "MFPR #56, R1", "map", "R1=1")
	row(t, "MFPR #18, R1", "PSL=1", "R1=0 PSL=5")
	row(t, "MFPR #3, R1", "USP=fffffffe PSL=f", "R1=fffffffe PSL=9")
	row(t, "MFPR #3, (R1)", "R1=4000", "fault 4 0")
}

func TestProcessorRegistersOfTheUser(t *testing.T) {
	row(t, "MTPR #1, #18", "user", "fault 10")
	row(t, "MFPR #18, R1", "user", "fault 10")
	// The operands aren't looked at.
	rowOf(t, nil, 0, "da", "user PC=3fff @3fff=da", "fault 10")
	rowOf(t, nil, 0, "db", "user PC=3fff @3fff=db", "fault 10")
}

// What is written to the tables, and to SCBB, is in use at once.
func TestProcessorRegistersAreUsed(t *testing.T) {
	text := "MTPR #0x3000, #8\nMTPR #32, #9\nMTPR #1, #56\nMOVL #5, @#0x2000\nMTPR #0x3100, #17\n"
	w := plain(assembled(text + "BPT"))
	w.say("map", "MAPEN=0", "P0BR=0", "P0LR=0", "@312c=c0100000")
	w.long(table+4*0x10, 0x98000011)
	is := w.copy()
	for range 6 {
		w.step(0)
	}
	breaks := program + uint32(len(assembled(text)))
	is.say("P0BR=3000", "P0LR=20", "MAPEN=1", "SCBB=3100", "@2200=05000000", "SP=7f8", "PC=10c0", "@7f8="+longs(breaks, 0), "mark10", "mark3")
	if s := told(w, is); s != "" {
		t.Error(s)
	}
}

func TestReturns(t *testing.T) {
	row(t, "REI", "PSL=5000f @800=4523000000000500", "PC=2345 SP=808 PSL=50000")
	row(t, "REI", "PSL=50000 @800=452300000f004400", "PC=2345 SP=808 PSL=44000f")
	row(t, "REI", "PSL=50000 @800="+longs(0x2345, 0x01400003), "PC=2345 SP=a00 KSP=808 PSL=1400003")
	row(t, "REI", "PSL=50000 @800="+longs(0x2345, 0x09400003), "PC=2345 SP=a00 KSP=808 PSL=9400003")
	row(t, "REI", "PSL=1f0000 @800="+longs(0x2345, 0x081f0000), "PC=2345 SP=808 PSL=81f0000")
	row(t, "REI", "user @800="+longs(0x2345, 0x0140000f), "PC=2345 SP=808 PSL=140000f")
	row(t, "REI", "user @800="+longs(0x2345, 0), "fault 18")
	row(t, "REI", "user @800="+longs(0x2345, 0x01000000), "fault 18")
	row(t, "REI", "user @800="+longs(0x2345, 0x01410000), "fault 18")
	row(t, "REI", "PSL=50000 @800="+longs(0x2345, 0x00060000), "fault 18")
	row(t, "REI", "PSL=50000 @800="+longs(0x2345, 0x01050000), "fault 18")
	row(t, "REI", "PSL=50000 @800="+longs(0x2345, 0x10), "fault 18")
	row(t, "REI", "PSL=50000 @800="+longs(0x2345, 0x80000000), "fault 18")
	row(t, "REI", "SP=3ff9", "fault 4 0")
	row(t, "REI", "map SP=9fc gone5", "fault 24 a00 0")
	row(t, "REI", "map SP=9fc gone4", "HALT=2 vector 24")
	row(t, "REI", "map user SP=9fc kernels4", "fault 20 9fc 0")
	// The other one's stack is that of the state.
	row(t, "REI", "USP=12345678 @800="+longs(0x2345, 0x01400000), "PC=2345 SP=12345678 KSP=808 PSL=1400000")
}

// A handler comes back to where it was gone from, to the user or the kernel, at each level.
func TestHandlersComeBack(t *testing.T) {
	for _, status := range []uint32{0, 0xf, 0x40000a, 0x1e0005, 0x01400000, 0x0140000f, 0x08000000, 0x09400003, 0x08030001} {
		w := plain(assembled("MOVL #1, R1"))
		w.s.PSL = status
		w.mem[handlers+0x17c] = 2
		is := w.copy()
		if v, e := w.step(1 << 31); v != 0x17c || e != api.OK {
			t.Errorf("%x: %x, error %d", status, v, e)
		}
		w.step(0)
		is.mem = w.mem
		if status>>24&1 == 1 {
			is.s.USP = 0x800
		}
		if s := told(w, is); s != "" {
			t.Errorf("%x:%s", status, s)
		}
	}
}
