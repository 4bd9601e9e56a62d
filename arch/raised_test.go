package arch_test

import (
	"testing"

	"camshaft/api"
)

// linesRow fails unless a step with lines makes what is wanted of what is ahead; the instruction would be MOVL #1, R1.
func linesRow(t *testing.T, lines uint32, ahead, want string) {
	t.Helper()
	rowOf(t, assembled("MOVL #1, R1"), lines, "lines "+hex(lines), ahead, want)
}

func TestInterrupts(t *testing.T) {
	linesRow(t, 0, "", "R1=1")
	linesRow(t, 1, "", "R1=1")
	for n := uint32(1); n < 32; n++ {
		linesRow(t, 1<<n, "", "line "+hex(n))
		linesRow(t, 1<<n|1, "user", "line "+hex(n))
		linesRow(t, 1<<n|(1<<n-1), "PSL="+hex((n-1)<<16), "line "+hex(n))
		linesRow(t, 1<<n|(1<<n-1), "PSL="+hex(n<<16), "R1=1 PSL="+hex(n<<16))
	}
	linesRow(t, 1<<30|1<<12|1<<5, "", "line 1e")
	linesRow(t, 1<<12|1<<5, "PSL=80000", "line c")
	linesRow(t, 1<<8|1<<5, "PSL=80000", "R1=1")
	linesRow(t, 0xffffffff, "PSL=1f000f", "R1=1 PSL=1f0001")
	// All of the status is pushed, and none of it stays.
	linesRow(t, 1<<20, "PSL=840000f", "line 14")
	linesRow(t, 1<<20, "PSL=13000f", "line 14")
	linesRow(t, 1<<20, "user PSL=940000f", "line 14")
	linesRow(t, 1<<20, "PSL=f6fffff5", "R1=1 PSL=f6fffff1")
}

// What a level's handler is begun by, in numbers.
func TestInterruptByHand(t *testing.T) {
	linesRow(t, 1<<9, "PSL=30002", "SP=7f8 PC=1124 PSL=90000 @7f8=0004000002000300 vector 124")
	linesRow(t, 1<<9, "user PSL=1400002", "USP=800 SP=bf8 PC=1124 PSL=490000 @bf8=0004000002004001 vector 124")
}

// An instruction that would raise something isn't begun.
func TestInterruptComesFirst(t *testing.T) {
	w := plain([]byte{0xff})
	is := w.copy()
	is.raise(0x104, 1)
	if v, e := w.step(2); v != 0x104 || e != api.OK {
		t.Errorf("%x, error %d", v, e)
	}
	if s := told(w, is); s != "" {
		t.Error(s)
	}
}

func TestInterruptsThatCannot(t *testing.T) {
	linesRow(t, 1<<9, "SCBB=3fdc", "HALT=3 vector 124")
	linesRow(t, 1<<9, "SCBB=fffffffc @120=c0100000", "SP=7f8 PC=10c0 PSL=90000 @7f8=0004000000000000 vector 124")
	linesRow(t, 1<<9, "@324=01", "HALT=4 vector 124")
	linesRow(t, 1<<9, "SP=4", "HALT=2 vector 124")
	linesRow(t, 1<<9, "user KSP=4", "HALT=2 vector 124")
}

func TestFrames(t *testing.T) {
	row(t, "BPT", "", "SP=7f8 PC=102c @7f8=0004000000000000 vector 2c")
	row(t, "BPT", "PSL=d000f", "SP=7f8 PC=102c PSL=d0000 @7f8=000400000f000d00 vector 2c")
	row(t, "BPT", "PSL=40000f", "SP=7f8 PC=102c PSL=0 @7f8=000400000f004000 vector 2c")
	row(t, "BPT", "user", "USP=800 SP=bf8 PC=102c PSL=400000 @bf8=0004000000004001 vector 2c")
	// The level of a status that can't be stays, too.
	row(t, "BPT", "PSL=1050008", "USP=800 SP=bf8 PC=102c PSL=450000 @bf8=0004000008000501 vector 2c")
	row(t, "CHMK #-2", "", "SP=7f4 PC=1040 @7f4=feffffff @7f8=0404000000000000 vector 40")
	row(t, "TSTL @#0x4000", "", "SP=7f4 PC=1004 @7f4=00000000 @7f8=0004000000000000 vector 4")
	row(t, "CLRL @#0x40000000", "map", "SP=7f0 PC=1020 @7f0=05000000 @7f4=00000040 @7f8=0004000000000000 mark3 vector 20")
	row(t, "CLRL @#0x2000", "map gone10", "SP=7f0 PC=1024 @7f0=04000000 @7f4=00200000 @7f8=0004000000000000 mark3 vector 24")
	row(t, "TSTL @#0x2000", "map gone10", "SP=7f0 PC=1024 @7f0=00000000 @7f4=00200000 @7f8=0004000000000000 mark3 vector 24")
}

// The four bytes of the vector are the memory's own, at any place that is there, of any table.
func TestVectors(t *testing.T) {
	row(t, "BPT", "SCBB=3fd0 @3ffc=c0100000", "SP=7f8 PC=10c0 @7f8=0004000000000000 vector 2c")
	row(t, "BPT", "SCBB=3fd1 @3ffc=c0100000", "HALT=3 vector 2c")
	row(t, "BPT", "SCBB=3fd4", "HALT=3 vector 2c")
	row(t, "BPT", "SCBB=ffffffff @2b=c0100000", "SP=7f8 PC=10c0 @7f8=0004000000000000 vector 2c")
	row(t, "BPT", "SCBB=ffffffd4 @0=c0100000", "SP=7f8 PC=10c0 @7f8=0004000000000000 vector 2c")
	row(t, "BPT", "SCBB=80000000", "HALT=3 vector 2c")
	row(t, "BPT", "@22c=01100000", "HALT=4 vector 2c")
	row(t, "BPT", "@22c=02100000", "HALT=4 vector 2c")
	row(t, "BPT", "@22c=03100000", "HALT=4 vector 2c")
	row(t, "BPT", "@22c=fcffffff", "SP=7f8 PC=fffffffc @7f8=0004000000000000 vector 2c")
	row(t, "BPT", "map gone1", "SP=7f8 PC=102c @7f8=0004000000000000 mark3 vector 2c")
	row(t, "BPT", "SCBB=231 @25d=c0100000", "SP=7f8 PC=10c0 @7f8=0004000000000000 vector 2c")
}

func TestStacksThatAreNone(t *testing.T) {
	row(t, "BPT", "SP=4004", "HALT=2 vector 2c")
	row(t, "BPT", "SP=4000", "SP=3ff8 PC=102c @3ff8=0004000000000000 vector 2c")
	row(t, "BPT", "SP=8", "SP=0 PC=102c @0=0004000000000000 vector 2c")
	row(t, "BPT", "SP=7", "HALT=2 vector 2c")
	row(t, "BPT", "SP=4", "HALT=2 vector 2c")
	row(t, "CHMK #1", "SP=8", "HALT=2 PC=402 vector 40")
	row(t, "BPT", "SP=804 map gone4", "HALT=2 vector 2c")
	row(t, "BPT", "SP=804 map gone3", "HALT=2 vector 2c")
	row(t, "BPT", "SP=804 map read3", "SP=7fc PC=102c @7fc=0004000000000000 mark3 mark4 vector 2c")
	row(t, "BPT", "SP=804 map read3", "SP=7fc PC=102c @7fc=0004000000000000 mark3 mark4 vector 2c")
	row(t, "BPT", "SP=804 map nobodys3", "HALT=2 vector 2c")
	row(t, "BPT", "SP=804 map nobodys4", "HALT=2 vector 2c")
	// It is the kernel who writes, whoever ran.
	row(t, "BPT", "user map kernels5", "USP=800 SP=bf8 PC=102c PSL=400000 @bf8=0004000000004001 mark5 vector 2c")
	row(t, "BPT", "user map gone5", "HALT=2 vector 2c")
	row(t, "BPT", "user KSP=4004", "HALT=2 vector 2c")
	// A Halt leaves what the instruction did, of a trap; of a fault it has done nothing.
	row(t, "DIVL2 #0, R1", "SP=8", "HALT=2 PC=403 PSL=a vector 34")
	row(t, "DIVL2 #0, (R1)+", "R1=2000 SP=8 @2000=05000000", "HALT=2 PC=403 R1=2004 PSL=2 vector 34")
	row(t, "DIVL2 #0, (R1)+", "R1=2000 @234=01 @2000=05000000", "HALT=4 PC=403 R1=2004 PSL=2 vector 34")
	row(t, "CHMK (R1)+", "R1=2000 SCBB=4000", "HALT=3 PC=402 R1=2002 vector 40")
	row(t, "ADDL3 (R1)+, (R1)+, @#0x4000", "R1=2000 SP=8", "HALT=2 vector 4")
	row(t, "TSTL @#0x40000000", "user map gone5", "HALT=2 vector 20")
}

// A trap's vector is read behind what its instruction wrote.
func TestTrapSeesWhatWasWritten(t *testing.T) {
	row(t, "DIVL3 #0, #0x10c0, @#0x234", "", "SP=7f4 PC=10c0 @234=c0100000 @7f4=02000000 @7f8=0c04000002000000 vector 34")
}
