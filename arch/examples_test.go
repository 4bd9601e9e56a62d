package arch_test

import (
	"testing"

	"camshaft/api"
	"camshaft/ram"
)

// The chapter's example, with R1 1000 and a memory of 1004 bytes: the second number isn't there.
func TestChaptersExample(t *testing.T) {
	r := ram.New(1004)
	r.Load(100, assembled("ADDL3 (R1)+, (R1)+, -(R1)")...)
	r.Put(api.VecBus, 64, 4)
	m := machine(r, api.State{R: [16]uint32{1: 1000, 14: 400, 15: 100}})
	v, e := m.Step(0)
	if s := m.State(); v != api.VecBus || e != api.OK || s.R[1] != 1000 || s.R[15] != 64 || s.R[14] != 388 {
		t.Errorf("%x, error %d: %+v", v, e, s)
	}
	if pc, _ := r.Get(392, 4); pc != 100 {
		t.Errorf("%d", pc)
	}
}

// DOC.md's examples of the whole, 1 to 9.
func TestExamplesOfTheWhole(t *testing.T) {
	// 1: both numbers are read, R1 is 8 more.
	row(t, "ADDL3 (R1)+, (R1)+, (R2)", "R1=2000 R2=2100 @2000="+longs(3, 4), "R1=2008 @2100="+longs(7))
	// 3: of a write over two pages not a byte is written.
	row(t, "MOVL #1, (R1)", "map user R1=21fe read11", "fault 20 2200 4")
	// 5: HALT by the user.
	row(t, "HALT", "user", "fault 10")
	// 6: CHMK by the user: the kernel's stack, PSL with Was.
	row(t, "CHMK #1", "user", "USP=800 SP=bf4 PC=1040 PSL=400000 @bf4="+longs(1, 0x402, 0x01400000)+" vector 40")
	// 7: a vector that is odd; no kernel stack.
	row(t, "BPT", "@22c=01", "HALT=4 vector 2c")
	row(t, "BPT", "SP=0", "HALT=2 vector 2c")
	// 8: two lines at once: the higher one, whose handler isn't interrupted by the lower one.
	w := plain(assembled("NOP"))
	w.mem[handlers+0x128] = 1
	first, _ := w.step(1<<10 | 1<<9)
	second, _ := w.step(1 << 9)
	if first != 0x128 || second != 0 || w.s.R[15] != handlers+0x129 {
		t.Errorf("%x, %x: %+v", first, second, w.s)
	}
}

// 2: the handler makes the page, and goes back: the instruction is done again.
func TestPagesThatAreMade(t *testing.T) {
	w := plain(assembled("ADDL3 (R1)+, (R1)+, (R2)"))
	w.say("map", "gone10", "R1=1ffc", "R2=2100", "@1ffc="+longs(3, 4))
	// The frame's Va and Info are taken away, and the page's entry is made by another name of it.
	copy(w.mem[handlers+api.VecInvalid:], assembled("BISB2 #-128, @#0x3043\nADDL2 #8, SP\nREI"))
	v, _ := w.step(0)
	if v != api.VecInvalid || w.s.R[1] != 0x1ffc {
		t.Fatalf("%x: %+v", v, w.s)
	}
	for range 4 {
		w.step(0)
	}
	if w.s.R[1] != 0x2004 || w.of(0x2100) != 7 || w.s.R[14] != 0x800 || w.s.R[15] != program+4 {
		t.Errorf("%+v", w.s)
	}
}

// 4: a string onto itself, three bytes on, with an interrupt within.
func TestStringOntoItself(t *testing.T) {
	w := plain(assembled("MOVC3 #100, @#0x2000, @#0x2003"))
	w.mem[handlers+0x120] = 2
	was := w.copy()
	for range 5 {
		w.step(0)
	}
	w.step(1 << 8)
	w.step(0)
	if w.s.PSL != 1<<27 || w.s.R[0]&0xffff != 68 {
		t.Errorf("%+v", w.s)
	}
	for range 9 {
		w.step(0)
	}
	if string(w.mem[0x2003:0x2067]) != string(was.mem[0x2000:0x2064]) || w.s.PSL != 4 || w.s.R[0] != 0 || w.s.R[15] != program+14 {
		t.Errorf("%+v", w.s)
	}
}

// 9: RET gives all registers back.
func TestProcedureGivesRegistersBack(t *testing.T) {
	w := plain(assembled("CALLS #0, @#0x2000"))
	copy(w.mem[0x2000:], append([]byte{0xff, 0x0f}, assembled("CLRL R0\nCLRL R11\nRET")...))
	is := w.copy()
	for range 4 {
		w.step(0)
	}
	is.mem, is.s.R[15] = w.mem, program+7
	if s := told(w, is); s != "" {
		t.Error(s)
	}
}
