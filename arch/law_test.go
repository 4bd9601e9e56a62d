package arch_test

import (
	"math/rand"
	"slices"
	"sync"
	"testing"

	"camshaft/api"
	"camshaft/arch"
	"camshaft/ram"
)

// isFault: whether a vector is one of what undoes its instruction.
func isFault(v int) bool {
	return slices.Contains([]int{api.VecBus, api.VecInstr, api.VecOperand, api.VecMode, api.VecAccess, api.VecInvalid, api.VecBreak}, v)
}

// frameOf: where a frame of n bytes below the end of the kernel's stack lies, and the entries of its pages.
func frameOf(w *world, n int) (places, entries []int) {
	end := w.s.R[14]
	m := &model{world: w}
	if m.user() {
		end = w.s.KSP
	}
	caught(func() { places, entries = m.places(end-uint32(n), n, false, true) })
	return
}

// P13.2: behind a fault all is as it was, but for the frame, marks, SP, PC and PSL; the PC that is pushed is the instruction's first byte.
func TestFaultsUndoAll(t *testing.T) {
	d := drawn{rand.New(rand.NewSource(132))}
	list := codes()
	met := map[int]int{}
	mem := d.memory()
	for n := range 30000 {
		w := d.world(mem)
		b := byte(list[n%len(list)])
		w.poke(w.s.R[15], d.instruction(b))
		d.fit(w, b)
		was := w.copy()
		v, _ := w.step(0)
		if !isFault(v) {
			continue
		}
		met[v]++
		if s := undone(w, was, v); s != "" {
			t.Fatalf("world %d, code %x, vector %x: %s", n, b, v, s)
		}
	}
	for _, v := range []int{api.VecBus, api.VecInstr, api.VecOperand, api.VecMode, api.VecAccess, api.VecInvalid, api.VecBreak} {
		if met[v] < 20 {
			t.Errorf("%x was raised %d times", v, met[v])
		}
	}
}

// undone: what isn't as it was behind a fault.
func undone(w, was *world, v int) string {
	if w.s.Halt != 0 {
		w.s.Halt = 0
		return told(w, was)
	}
	size := 12
	switch v {
	case api.VecAccess, api.VecInvalid:
		size = 16
	case api.VecInstr, api.VecOperand, api.VecMode, api.VecBreak:
		size = 8
	}
	places, entries := frameOf(was, size)
	if len(places) != size {
		return "the frame can't be written"
	}
	top := make([]byte, 8)
	for i, at := range places[size-8:] {
		top[i] = w.mem[at]
	}
	if numberOf(top) != was.s.R[15] || numberOf(top[4:]) != was.s.PSL {
		return "the frame has another PC, or PSL"
	}
	for _, at := range places {
		w.mem[at] = was.mem[at]
	}
	for _, at := range entries {
		w.mem[at+3] = w.mem[at+3]&^4 | was.mem[at+3]&4
	}
	is := was.copy()
	is.s.R[14], is.s.R[15], is.s.PSL, is.s.KSP, is.s.USP = w.s.R[14], w.s.R[15], w.s.PSL, w.s.KSP, w.s.USP
	return told(w, is)
}

// Rule 3: the memory that is handed in is kept, and used; nothing of it is buffered.
func TestMemoryIsUsed(t *testing.T) {
	r := ram.New(size)
	m := arch.New(r)
	m.Load(api.State{R: [16]uint32{15: program}})
	r.Load(program, assembled("MOVL @#0x2000, R1\nMOVL #7, @#0x2004\nMOVL @#0x2000, R2")...)
	r.Put(0x2000, 5, 4)
	m.Step(0)
	r.Put(0x2000, 6, 4)
	m.Step(0)
	m.Step(0)
	x, _ := r.Get(0x2004, 4)
	if s := m.State(); s.R[1] != 5 || s.R[2] != 6 || x != 7 {
		t.Errorf("%+v, %d", s, x)
	}
}

// The tables are asked as they stand by now, also what the machine itself wrote there.
func TestTablesAreUsedAsTheyStand(t *testing.T) {
	w := plain(assembled("MOVL @#0x2000, R1\nMOVL @#0x2000, R2\nMOVL #0x18000010, @#0x3040\nMOVL @#0x2000, R3\nMOVL #1, R4"))
	w.say("map", "@2000=01000000", "@2200=02000000")
	r := memory(w.mem)
	m := machine(r, w.s)
	m.Step(0)
	r.Put(table+4*0x10, 0x98000011, 4)
	m.Step(0)
	m.Step(0)
	v, _ := m.Step(0)
	if s := m.State(); s.R[1] != 1 || s.R[2] != 2 || v != api.VecInvalid {
		t.Errorf("%x: %+v", v, s)
	}
	// What an instruction is read from, too.
	w = plain(nil)
	w.say("map", "@2000=d00151", "@2200=d00251", "PC=2000")
	r = memory(w.mem)
	m = machine(r, w.s)
	m.Step(0)
	r.Put(table+4*0x10, 0x98000011, 4)
	s := m.State()
	s.R[15] = 0x2000
	m.Load(s)
	m.Step(0)
	if s := m.State(); s.R[1] != 2 {
		t.Errorf("%+v", s)
	}
}

// So are they for a handler's frame.
func TestFramesAskTheTablesAsTheyStand(t *testing.T) {
	w := plain(assembled("PUSHL #1"))
	w.say("map")
	r := memory(w.mem)
	m := machine(r, w.s)
	m.Step(0)
	r.Put(table+4*3, 0x18000003, 4)
	if v, e := m.Step(1 << 5); v != 0x114 || e != api.OK || m.State().Halt != api.HaltStack {
		t.Errorf("%x, error %d: %+v", v, e, m.State())
	}
}

// A page that is written to is marked each time, also when the mark was taken away.
func TestMarksComeAgain(t *testing.T) {
	w := plain(assembled("MOVL #1, @#0x2000\nMOVL #2, @#0x2000"))
	w.say("map")
	r := memory(w.mem)
	m := machine(r, w.s)
	for range 2 {
		m.Step(0)
		if x, _ := r.Get(table+4*0x10, 4); x != 0x9c000010 {
			t.Errorf("%x", x)
		}
		r.Put(table+4*0x10, 0x98000010, 4)
	}
}

// trace: the states of so many steps, one after the other.
func trace(m *arch.Machine, lines []uint32) []api.State {
	var list []api.State
	for _, x := range lines {
		m.Step(x)
		list = append(list, m.State())
	}
	return list
}

// busy: a world that does this and that, also strings and interrupts.
func busy(seed uint32) *world {
	w := plain(assembled("again: ADDL2 R1, R2\nMOVC3 #19, @#0x2000, @#0x2003\nXORL2 R2, @#0x2010\nCHMK R2\nDIVL2 #0, R2\nLOCC R2, #30, @#0x2000\nTSTB @#0x7fffffff\nBRB again"))
	w.s.R[1] = seed
	for v := 0; v < 0x180; v += 4 {
		w.mem[handlers+v] = 2
	}
	// What is raised with something takes that from the stack first.
	for _, v := range []int{api.VecBus, api.VecDivide, api.VecChange} {
		w.long(vectors+v, 0x1200)
	}
	copy(w.mem[0x1200:], assembled("MOVL (SP)+, R6\nADDL2 #6, (SP)\nREI"))
	return w
}

// Rule 4: machines know nothing of one another, whether they run by turns or at a time.
func TestMachinesAreApart(t *testing.T) {
	var lines []uint32
	random := rand.New(rand.NewSource(4))
	for range 400 {
		lines = append(lines, 1<<random.Intn(32)&random.Uint32()&random.Uint32())
	}
	const count = 8
	var alone [count][]api.State
	for n := range alone {
		w := busy(uint32(n))
		alone[n] = trace(machine(memory(w.mem), w.s), lines)
	}
	var turns [count]*arch.Machine
	for n := range turns {
		w := busy(uint32(n))
		turns[n] = machine(memory(w.mem), w.s)
	}
	for i, x := range lines {
		for n, m := range turns {
			m.Step(x)
			if s := m.State(); s != alone[n][i] {
				t.Fatalf("machine %d, step %d: %+v, want %+v", n, i, s, alone[n][i])
			}
		}
	}
	var group sync.WaitGroup
	var apart [count][]api.State
	for n := range apart {
		group.Go(func() {
			w := busy(uint32(n))
			apart[n] = trace(machine(memory(w.mem), w.s), lines)
		})
	}
	group.Wait()
	for n := range apart {
		if !slices.Equal(apart[n], alone[n]) {
			t.Errorf("machine %d at a time with others does something else", n)
		}
	}
}

// Rule 4: what a step does hangs on the state and the memory alone, not on how they were come to.
func TestStepsGoOnFromTheirStates(t *testing.T) {
	w := busy(3)
	m := machine(memory(w.mem), w.s)
	for n := range 300 {
		lines := uint32(0)
		if n%7 == 3 {
			lines = 1 << (n % 32)
		}
		m.Step(lines)
		w.step(lines)
		if s := m.State(); s != w.s {
			t.Fatalf("step %d: %+v, want %+v", n, s, w.s)
		}
	}
}

// Two machines over one memory see what the other one writes.
func TestMachinesOverOneMemory(t *testing.T) {
	w := plain(assembled("INCL @#0x2000\nMOVL @#0x2000, R1"))
	w.say("@2000=00000000")
	r := memory(w.mem)
	m, n := machine(r, w.s), machine(r, w.s)
	m.Step(0)
	n.Step(0)
	m.Step(0)
	if s := m.State(); s.R[1] != 2 {
		t.Errorf("%+v", s)
	}
}
