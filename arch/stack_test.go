package arch_test

import (
	"fmt"
	"strings"
	"testing"

	"camshaft/psl"
)

// longs: numbers as the bytes of a row's words.
func longs(list ...uint32) string {
	var b strings.Builder
	for _, x := range list {
		fmt.Fprintf(&b, "%02x%02x%02x%02x", byte(x), byte(x>>8), byte(x>>16), byte(x>>24))
	}
	return b.String()
}

// What the registers AP and FP, and the others, are, unless a row says otherwise.
const ap, fp = 0xa0b0c0cc, 0xa0b0c0dd

func other(n int) uint32 { return 0xa0b0c000 + 0x11*uint32(n) }

func TestCalls(t *testing.T) {
	row(t, "CALLS #3, @#0x2000", "@2000=0000 PSL=8000f", "SP=7e8 FP=7e8 AP=7fc PC=2002 PSL=80000 @7fc=03000000 @7e8="+longs(0, 0x20000000, ap, fp, 0x407))
	row(t, "CALLS R1, (R2)", "@2001=ff0f R1=12345678 R2=2001", "SP=7b8 FP=7b8 AP=7fc PC=2003 @7fc=78563412 @7b8="+
		longs(0, 0x2fff0000, ap, fp, 0x403, other(0), 0x12345678, 0x2001, other(3), other(4), other(5), other(6), other(7), other(8), other(9), other(10), other(11)))
	row(t, "CALLS #0, @#0x2000", "@2000=0408", "SP=7e0 FP=7e0 AP=7fc PC=2002 @7fc=00000000 @7e0="+longs(0, 0x28040000, ap, fp, 0x407, other(2), other(11)))
	// Bits 14 and 15 of the mask say nothing.
	row(t, "CALLS #0, @#0x2000", "@2000=01c0", "SP=7e4 FP=7e4 AP=7fc PC=2002 @7fc=00000000 @7e4="+longs(0, 0x20010000, ap, fp, 0x407, other(0)))
	for aside := range uint32(4) {
		row(t, "CALLS #1, @#0x2000", "@2000=0100 SP="+hex(0x800+aside), fmt.Sprintf("SP=7e4 FP=7e4 AP=%x PC=2002 @7fc=%s @%x=01000000 @7e4=%s", 0x7fc+aside, "", 0x7fc+aside, longs(0, 0x20010000|aside<<30, ap, fp, 0x407, other(0))))
	}
	// The operands have been evaluated.
	row(t, "CALLS (SP)+, (R0)+", "R0=2000 @2000=0100 @800=77000000", "R0=2001 SP=7e8 FP=7e8 AP=800 PC=2002 @7e8="+longs(0, 0x20010000, ap, fp, 0x403, 0x2001)+" @800=77000000")
}

func TestCallsThatCannot(t *testing.T) {
	row(t, "CALLS #0, @#0x2000", "@2000=0010", "fault 18")
	row(t, "CALLS #0, @#0x2000", "@2000=0020", "fault 18")
	row(t, "CALLS #0, @#0x2000", "@2000=00f0 SP=4", "HALT=2 vector 18")
	row(t, "CALLS #0, @#0x3fff", "@3fff=00", "fault 4 0")
	row(t, "CALLS #0, @#0x21ff", "map gone11", "fault 24 2200 0")
	row(t, "CALLS #0, @#0x21ff", "map user kernels10", "fault 20 21ff 0")
	row(t, "CALLS #0, @#0x2000", "map user nobodys10", "fault 20 2000 0")
	// First the number of arguments is probed, then the frame.
	row(t, "CALLS #0, @#0x2000", "map user @2000=0000 SP=802 read3 nobodys4", "fault 20 7fe 4")
	row(t, "CALLS #0, @#0x2000", "map user @2000=0000 SP=802 nobodys4", "fault 20 800 4")
	row(t, "CALLS #0, @#0x2000", "map user @2000=0000 SP=804 nobodys3", "fault 20 7ec 4")
	row(t, "CALLS #0, @#0x2000", "map user @2000=0000 SP=808 gone3", "fault 24 7f0 4")
	row(t, "CALLS #0, @#0x2000", "map user @2000=0000 SP=808 gone3 gone4", "fault 24 804 4")
	row(t, "CALLS #0, @#0x2000", "map user @2000=0100 SP=808 read4", "fault 20 804 4")
	row(t, "CALLS #0, @#0x2000", "user @2000=0100 SP=4004", "fault 4 0")
	row(t, "CALLS #0, @#0x2000", "user @2000=0100 SP=14", "fault 4 0")
	row(t, "CALLS #0, @#0x2000", "user @2000=0100 SP=2", "fault 4 0")
	row(t, "CALLS #0, @#0x2000", "map @2000=0100 SP=1804", "SP=17e8 FP=17e8 AP=1800 PC=2002 @1800=00000000 @17e8="+longs(0, 0x20010000, ap, fp, 0x407, other(0))+" markb markc")
}

// The number of arguments is written over the entry of the frame's page, so that this one can't be written any more: all goes back.
func TestCallsOverItsOwnTable(t *testing.T) {
	// The entry of page 18, where both are, is at 3060: page 18 isn't there any more; then it lies in another frame.
	row(t, "CALLS R1, @#0x2000", "map user R1=18000018 SP=3064 @2000=0000", "fault 24 304c 4")
	row(t, "CALLS R1, @#0x2000", "map user R1=98000019 SP=3064 @2000=0000", "SP=304c FP=304c AP=3060 PC=2002 @3060=1900009c @324c="+longs(0, 0x20000000, ap, fp, 0x407))
	// The entry of page 17, where just the frame is, is at 3000.
	row(t, "CALLS R1, @#0x2000", "map user R1=18000017 SP=3004 @2000=0000 P0BR=2fa4 @2fa4="+entries(32), "mark18 fault 24 2fec 4")
	row(t, "CALLS R1, @#0x2000", "map user R1=80000017 SP=3004 @2000=0000 P0BR=2fa4 @2fa4="+entries(32), "mark18 fault 20 2fec 4")
}

// entries: those of the first n pages.
func entries(n uint32) string {
	var list []uint32
	for i := range n {
		list = append(list, 0x98000000+i)
	}
	return longs(list...)
}

func TestRet(t *testing.T) {
	plain := longs(0x11111111, 0x20000000, 0x22222222, 0x33333333, 0x2345)
	row(t, "RET", "FP=2000 PSL=8000f @2000="+plain+"02000000", "AP=22222222 FP=33333333 PC=2345 SP=2020 PSL=80000")
	row(t, "RET", "FP=2000 @2000="+plain+"00000000", "AP=22222222 FP=33333333 PC=2345 SP=2018")
	row(t, "RET", "FP=2000 @2000="+plain+"ff000000", "AP=22222222 FP=33333333 PC=2345 SP=2414")
	row(t, "RET", "FP=2000 @2000="+plain+"01ffffff", "AP=22222222 FP=33333333 PC=2345 SP=201c")
	row(t, "RET", "FP=2000 @2000="+longs(0, 0, 1, 2, 3, 0x77777777), "AP=1 FP=2 PC=3 SP=2014")
	row(t, "RET", "FP=2000 @2000="+longs(0, 0x0000000f, 1, 2, 3), "AP=1 FP=2 PC=3 SP=2014 PSL=f")
	row(t, "RET", "FP=2000 PSL=5 @2000="+longs(0, 0x0000000a, 1, 2, 3), "AP=1 FP=2 PC=3 SP=2014 PSL=a")
	row(t, "RET", "FP=2000 @2000="+longs(0, 0x80000000, 1, 2, 3), "AP=1 FP=2 PC=3 SP=2016")
	row(t, "RET", "FP=2000 @2000="+longs(0, 0x60000000, 1, 2, 3)+"ff02000000", "AP=1 FP=2 PC=3 SP=2021")
	row(t, "RET", "FP=2000 @2000="+longs(0, 0xe8020000, 1, 2, 3, 0x1234, 0x5678)+"00000002000000", "AP=1 FP=2 PC=3 SP=202b R1=1234 R11=5678")
	row(t, "RET", "FP=2001 @2001="+longs(0, 0x0fff0000, 1, 2, 3, 100, 101, 102, 103, 104, 105, 106, 107, 108, 109, 110, 111),
		"AP=1 FP=2 PC=3 SP=2045 R0=64 R1=65 R2=66 R3=67 R4=68 R5=69 R6=6a R7=6b R8=6c R9=6d R10=6e R11=6f")
}

func TestRetThatCannot(t *testing.T) {
	for bit := range 32 {
		w := uint32(1) << bit
		good := 4 > bit || 16 <= bit && bit != 28
		if !good {
			row(t, "RET", "FP=2000 @2000="+longs(0, w, 1, 2, 3, 0, 0), "fault 18")
			continue
		}
		// What is read behind would not be there.
		if 16 <= bit && bit < 28 || bit == 29 {
			row(t, "RET", "FP=3fec @3fec="+longs(0, w, 1, 2, 3), "fault 4 0")
		} else {
			row(t, "RET", "FP=3fec @3fec="+longs(0, w, 1, 2, 3), fmt.Sprintf("AP=1 FP=2 PC=3 SP=%x PSL=%x", 0x4000+w>>30, w&15))
		}
	}
	row(t, "RET", "FP=3fed", "fault 4 0")
	row(t, "RET", "FP=fffffffc", "fault 4 0")
	row(t, "RET", "map FP=21f0 gone11 @21f0="+longs(0, 0x10000000), "fault 24 2200 0")
	row(t, "RET", "map FP=21f0 gone10", "fault 24 21f0 0")
	row(t, "RET", "map FP=21ec gone11 @21ec="+longs(0, 0x2000fff0, 1, 2, 3), "fault 18")
	row(t, "RET", "map FP=21ec gone11 @21ec="+longs(0, 0x00010000, 1, 2, 3), "fault 24 2200 0")
	row(t, "RET", "map FP=21e8 gone11 @21e8="+longs(0, 0x00030000, 1, 2, 3, 4), "fault 24 2200 0")
	row(t, "RET", "map FP=21e8 gone11 @21e8="+longs(0, 0x00010000, 1, 2, 3, 4), "AP=1 FP=2 PC=3 SP=2200 R0=4")
	row(t, "RET", "map FP=21e8 gone11 @21e8="+longs(0, 0x20000000, 1, 2, 3, 4), "AP=1 FP=2 PC=3 SP=2210")
	row(t, "RET", "map FP=21e8 gone11 @21e8="+longs(0, 0x60000000, 1, 2, 3, 4), "fault 24 2200 0")
	row(t, "RET", "map user FP=21e8 kernels10", "fault 20 21e8 0")
}

// CALLS and RET of each mask's edge give back all registers, at stacks' ends of all kinds.
func TestCallsAndRet(t *testing.T) {
	for _, mask := range []uint32{0, 1, 0x800, 0xfff, 0x555, 0xaaa, 0xcfff} {
		for aside := range uint32(4) {
			for _, n := range []uint32{0, 1, 3} {
				w := plain(assembled(fmt.Sprintf("CALLS #%d, @#0x2000", n)))
				w.say("SP="+hex(0x7c0+aside), "PSL=9", "@2000="+longs(mask)[:4]+"04")
				is := w.copy()
				w.step(0)
				// What the procedure does to the registers that are saved isn't seen any more.
				for r := range 12 {
					if mask>>r&1 == 1 {
						w.s.R[r] = 0x5a5a5a5a
					}
				}
				w.step(0)
				is.s.R[14] += 4 * n
				is.s.R[15] += 7
				is.s.PSL = 0
				is.mem = w.mem
				if s := told(w, is); s != "" {
					t.Errorf("mask %x, aside %d, %d arguments:%s", mask, aside, n, s)
				}
			}
		}
	}
}

func TestPushesOfRegisters(t *testing.T) {
	row(t, "PUSHR #0", "PSL=f", "PSL=f")
	row(t, "PUSHR #1", "", "SP=7fc @7fc="+longs(other(0)))
	row(t, "PUSHR #6", "PSL=f", "SP=7f8 PSL=f @7f8="+longs(other(1), other(2)))
	row(t, "PUSHR #0x4000", "", "SP=7fc @7fc=00080000")
	row(t, "PUSHR #-32768", "", "")
	row(t, "PUSHR #-1", "", "SP=7c4 @7c4="+longs(other(0), other(1), other(2), other(3), other(4), other(5), other(6), other(7), other(8), other(9), other(10), other(11), ap, fp, 0x800))
	row(t, "PUSHR (R1)+", "R1=2000 @2000=0240", "R1=2002 SP=7f8 @7f8="+longs(0x2002, 0x800))
	row(t, "PUSHR (SP)+", "@800=0140", "SP=7fa @7fa="+longs(other(0), 0x802))
	row(t, "PUSHR #0", "SP=99999999", "")
	row(t, "PUSHR #3", "user SP=4", "fault 4 0")
	row(t, "PUSHR #3", "user SP=4001", "fault 4 0")
	row(t, "PUSHR #3", "map user SP=804 gone4", "fault 24 800 4")
	row(t, "PUSHR #3", "map user SP=804 gone3", "fault 24 7fc 4")
	row(t, "PUSHR #3", "map user SP=804 read3", "fault 20 7fc 4")
	row(t, "PUSHR #3", "map user SP=804 read4", "fault 20 800 4")
	row(t, "PUSHR #3", "map user SP=804", "SP=7fc mark3 mark4 @7fc="+longs(other(0), other(1)))
}

func TestPopsOfRegisters(t *testing.T) {
	row(t, "POPR #0", "PSL=f", "PSL=f")
	row(t, "POPR #2", "@800="+longs(0x12345678), "SP=804 R1=12345678")
	row(t, "POPR #-0x77ff", "@800="+longs(1, 2, 3), "SP=808 R0=1 R11=2")
	row(t, "POPR #0x4001", "@800="+longs(1, 0x2222), "SP=2222 R0=1")
	row(t, "POPR #-1", "PSL=f @800="+longs(1, 2, 3, 4, 5, 6, 7, 8, 9, 10, 11, 12, 13, 14, 15),
		"PSL=f R0=1 R1=2 R2=3 R3=4 R4=5 R5=6 R6=7 R7=8 R8=9 R9=a R10=b R11=c AP=d FP=e SP=f")
	row(t, "POPR (SP)+", "@800=0300"+longs(1, 2), "SP=80a R0=1 R1=2")
	row(t, "POPR #0", "SP=99999999", "")
	row(t, "POPR #3", "user SP=3ffc", "fault 4 0")
	row(t, "POPR #3", "map user SP=5fc gone3", "fault 24 600 0")
	row(t, "POPR #3", "map user SP=5fc read2 read3 @5fc="+longs(1, 2), "SP=604 R0=1 R1=2")
	row(t, "POPR #3", "map user SP=2000 nobodys10", "fault 20 2000 0")
}

// What each mask pushes comes back.
func TestPushAndPop(t *testing.T) {
	for mask := 0; mask < 1<<15; mask += 1 + mask/64 {
		text := fmt.Sprintf("PUSHR #%d\nPOPR #%d", mask, mask)
		w := plain(assembled(text))
		w.s.PSL = psl.N
		is := w.copy()
		w.step(0)
		// But for SP, which is needed to find them.
		for r := range 14 {
			if mask>>r&1 == 1 {
				w.s.R[r] = 0x5a5a5a5a
			}
		}
		w.step(0)
		is.s.R[15] += uint32(len(assembled(text)))
		is.mem = w.mem
		if s := told(w, is); s != "" {
			t.Errorf("mask %x:%s", mask, s)
		}
	}
}
