package regs_test

import (
	"testing"

	"camshaft/api"
	"camshaft/regs"
)

const user, kernel = true, false

// P7.1: of a new one all numbers are noughts, and there are no steps.
func TestNew(t *testing.T) {
	f := regs.New()
	for n := range 16 {
		is(t, f, n, 0)
	}
	steps(t, f, 0)
	ends(t, f, 0, 0, 0)
	if f.Psl() != 0 || f.Save(api.State{}) != (api.State{}) {
		t.Error("New isn't all noughts")
	}
}

// P7.1: Get answers each register, and 0 of a number that is none's.
func TestGet(t *testing.T) {
	f := loaded(0)
	for n := range 16 {
		is(t, f, n, uint32(110+n))
	}
	for _, n := range noRegister {
		is(t, f, n, 0)
	}
}

// P7.1: Set puts the lowest bytes of a size; the others stay.
func TestSet(t *testing.T) {
	for _, c := range []struct {
		x    uint32
		size int
		want uint32
	}{
		{0x55667788, 1, 0x11223388},
		{0x55667788, 2, 0x11227788},
		{0x55667788, 4, 0x55667788},
		{0xffffff00, 1, 0x11223300},
		{0xffff0000, 2, 0x11220000},
		{0xffffffff, 1, 0x112233ff},
		{0xffffffff, 2, 0x1122ffff},
		{0xffffffff, 4, 0xffffffff},
		{0, 4, 0},
		{0x11223344, 4, 0x11223344},
	} {
		f := regs.New()
		f.Set(5, 0x11223344, 4)
		if e := f.Set(5, c.x, c.size); e != api.OK {
			t.Fatalf("Set: %d", e)
		}
		is(t, f, 5, c.want)
	}
}

// P7.1: Set of each register and size leaves all others, the status, the ends beside, and the steps as they were.
func TestSetOfEach(t *testing.T) {
	for _, status := range []uint32{0, 0x01400000} {
		for n := range 16 {
			for _, size := range []int{1, 2, 4} {
				f := loaded(status)
				f.Step((n+1)%16, 0)
				want := f.Save(full())
				want.R[n] = map[int]uint32{1: 0xbd, 2: 0xabbd, 4: 0x89abbd}[size]
				if e := f.Set(n, 0x89abbd, size); e != api.OK {
					t.Fatalf("Set(%d, 89abbd, %d): %d", n, size, e)
				}
				if got := f.Save(full()); got != want {
					t.Fatalf("Set(%d, 89abbd, %d): %x, want %x", n, size, got, want)
				}
				steps(t, f, 1)
			}
		}
	}
}

// P7.1: Set refuses numbers of no register, numbers that aren't a size, and both; nothing is changed then.
func TestSetRefuses(t *testing.T) {
	f := loaded(0x01400000)
	f.Step(3, 9)
	before := f.Save(full())
	refused := func(n, size int) {
		t.Helper()
		if e := f.Set(n, 0xffffffff, size); e != api.ErrArg {
			t.Fatalf("Set(%d, ffffffff, %d): %d, want ErrArg", n, size, e)
		}
		if f.Save(full()) != before || f.Steps() != 1 {
			t.Fatalf("Set(%d, ffffffff, %d) changes something", n, size)
		}
	}
	for _, n := range noRegister {
		for _, size := range append([]int{1, 2, 4}, noSize...) {
			refused(n, size)
		}
	}
	for n := range 16 {
		for _, size := range noSize {
			refused(n, size)
		}
	}
}

// P7.1: Step adds to its register alone, modulo 2^32, and is one more step; Undo takes it back.
func TestStepOfEach(t *testing.T) {
	for n := range 16 {
		for _, c := range []struct{ from, d, want uint32 }{
			{7, 4, 11},
			{7, 0, 7},
			{7, 0xfffffffc, 3},
			{2, 0xfffffffc, 0xfffffffe},
			{0xfffffffe, 4, 2},
			{0xffffffff, 1, 0},
			{0, 0xffffffff, 0xffffffff},
			{0x80000000, 0x80000000, 0},
			{0xffffffff, 0xffffffff, 0xfffffffe},
		} {
			f := loaded(0)
			f.Set(n, c.from, 4)
			want := f.Save(full())
			if e := f.Step(n, c.d); e != api.OK {
				t.Fatalf("Step(%d, %x): %d", n, c.d, e)
			}
			steps(t, f, 1)
			want.R[n] = c.want
			if got := f.Save(full()); got != want {
				t.Fatalf("Step(%d, %x): %x, want %x", n, c.d, got, want)
			}
			f.Undo()
			steps(t, f, 0)
			want.R[n] = c.from
			if got := f.Save(full()); got != want {
				t.Fatalf("Undo: %x, want %x", got, want)
			}
		}
	}
}

// P7.1: a Step of no register is refused; it is no step, and changes nothing.
func TestStepRefuses(t *testing.T) {
	f := loaded(0)
	f.Step(2, 5)
	before := f.Save(full())
	for _, n := range noRegister {
		if e := f.Step(n, 4); e != api.ErrArg {
			t.Fatalf("Step(%d, 4): %d, want ErrArg", n, e)
		}
		steps(t, f, 1)
		if f.Save(full()) != before {
			t.Fatalf("Step(%d, 4) changes something", n)
		}
	}
	f.Undo()
	if f.Save(full()) != loaded(0).Save(full()) {
		t.Error("Undo takes back what was no step")
	}
}

// P7.1: the chapter's example.
func TestExample(t *testing.T) {
	f := regs.New()
	f.Set(3, 6, 4)
	f.Step(3, 4)
	is(t, f, 3, 10)
	f.Step(3, 0xfffffff8)
	is(t, f, 3, 2)
	steps(t, f, 2)
	f.Undo()
	is(t, f, 3, 6)
	steps(t, f, 0)
}

// P7.1: Undo of no steps changes nothing; a second Undo neither.
func TestUndoOfNone(t *testing.T) {
	f := loaded(0x01400000)
	before := f.Save(full())
	f.Undo()
	if f.Save(full()) != before || f.Steps() != 0 {
		t.Error("Undo of none changes something")
	}
	f.Step(1, 100)
	f.Step(14, 200)
	f.Undo()
	f.Undo()
	if f.Save(full()) != before || f.Steps() != 0 {
		t.Error("Undo twice takes back too much")
	}
}

// P7.1: Undo of several steps of several registers, registers 14 and 15 among them.
func TestUndoOfSeveral(t *testing.T) {
	f := loaded(0)
	for i, c := range []struct {
		n    int
		d    uint32
		want uint32
	}{
		{0, 1, 111}, {15, 6, 131}, {14, 0xfffffffc, 120}, {0, 8, 119}, {15, 0, 131}, {0, 0xffffff00, 0xffffff77}, {14, 4, 124},
	} {
		f.Step(c.n, c.d)
		is(t, f, c.n, c.want)
		steps(t, f, i+1)
	}
	f.Undo()
	steps(t, f, 0)
	if f.Save(full()) != loaded(0).Save(full()) {
		t.Error("Undo doesn't make the registers what they were")
	}
}

// P7.1: what was stepped is taken from what Set has put since, and Set of fewer bytes goes with the sum.
func TestUndoBehindSet(t *testing.T) {
	f := regs.New()
	f.Step(4, 0x100)
	f.Set(4, 0x1000, 4)
	f.Step(4, 0x10)
	f.Undo()
	is(t, f, 4, 0xf00)

	f.Set(5, 0x1ff, 4)
	f.Step(5, 1)
	is(t, f, 5, 0x200)
	f.Set(5, 0, 1)
	f.Set(6, 77, 4)
	f.Undo()
	is(t, f, 5, 0x1ff)
	is(t, f, 6, 77)

	f.Set(7, 0xff, 4)
	f.Step(7, 1)
	f.Set(7, 0x22, 1)
	f.Undo()
	is(t, f, 7, 0x121)
	steps(t, f, 0)
}

// P7.1: what was added to register 14 is taken from register 14, whoever's stack it ends meanwhile.
func TestUndoBehindPut(t *testing.T) {
	f := loaded(0)
	f.SetStack(kernel, 0x1000)
	f.SetStack(user, 0x2000)
	f.Step(14, 0x10)
	f.Put(0x01400000)
	steps(t, f, 1)
	ends(t, f, 0x1010, 0x2000, 0x2000)
	f.Undo()
	ends(t, f, 0x1010, 0x1ff0, 0x1ff0)
	steps(t, f, 0)
	if f.Psl() != 0x01400000 {
		t.Error("Undo changes the status")
	}

	f.Step(14, 4)
	f.Put(0)
	f.Step(14, 1)
	f.Put(0x01000000)
	f.Undo()
	ends(t, f, 0x1011, 0x1fef, 0x1fef)

	f.Step(14, 8)
	f.Put(0)
	f.Put(0x01400000)
	f.Undo()
	ends(t, f, 0x1011, 0x1fef, 0x1fef)
}

// P7.1: behind SetStack of who runs the sum is taken from the new end; the other one's end is never stepped.
func TestUndoBehindSetStack(t *testing.T) {
	f := regs.New()
	f.Step(14, 4)
	f.SetStack(kernel, 0x100)
	f.SetStack(user, 0x200)
	steps(t, f, 1)
	f.Undo()
	ends(t, f, 0xfc, 0x200, 0xfc)
	steps(t, f, 0)
}

// P7.1: Load forgets the steps: Undo takes none of them from the new registers.
func TestUndoBehindLoad(t *testing.T) {
	for _, status := range []uint32{0, 0x01400000} {
		f := regs.New()
		for n := range 16 {
			f.Step(n, uint32(1000+n))
		}
		s := full()
		s.PSL = status
		f.Load(s)
		steps(t, f, 0)
		f.Undo()
		if f.Save(full()) != s {
			t.Error("Undo takes back steps from ahead of Load")
		}
		f.Step(3, 5)
		steps(t, f, 1)
		f.Undo()
		if f.Save(full()) != s {
			t.Error("Undo behind Load and a step")
		}
	}
}

// P7.1: Forget leaves the registers, and Undo behind it takes back nothing.
func TestForget(t *testing.T) {
	f := loaded(0)
	f.Forget()
	steps(t, f, 0)
	if f.Save(full()) != loaded(0).Save(full()) {
		t.Error("Forget of none changes something")
	}
	f.Step(3, 10)
	f.Step(14, 20)
	stepped := f.Save(full())
	f.Forget()
	steps(t, f, 0)
	f.Undo()
	if f.Save(full()) != stepped {
		t.Error("Undo takes back what was forgotten")
	}
	f.Step(3, 100)
	steps(t, f, 1)
	f.Undo()
	if f.Save(full()) != stepped {
		t.Error("Undo behind Forget and a step")
	}
	f.Forget()
	f.Forget()
	steps(t, f, 0)
}

// P7.1: Steps counts those of one register, of several, and those that add nothing.
func TestSteps(t *testing.T) {
	f := regs.New()
	for i := range 40 {
		f.Step(i%3, uint32(i%2))
		steps(t, f, i+1)
	}
	f.Get(1)
	f.Set(1, 5, 4)
	f.Put(0x01400000)
	f.SetStack(user, 9)
	f.Save(api.State{})
	steps(t, f, 40)
}

// P7.1: Put to another status of the same one leaves the stacks, and what stands beside of who runs.
func TestPutOfTheSame(t *testing.T) {
	for _, list := range [][]uint32{kernels, users} {
		f := loaded(list[0])
		want := f.Save(full())
		for _, x := range list {
			f.Put(x)
			want.PSL = x
			if got := f.Save(full()); got != want || f.Psl() != x {
				t.Fatalf("Put(%08x): %x, want %x", x, got, want)
			}
		}
	}
}

// P7.1: Put from the kernel's to the user's status and back, register 14 changed meanwhile in all ways.
func TestPutToAndFro(t *testing.T) {
	f := regs.New()
	f.SetStack(kernel, 100)
	f.SetStack(user, 200)
	ends(t, f, 100, 200, 100)
	f.Put(0x01400000)
	ends(t, f, 100, 200, 200)
	f.Set(14, 300, 4)
	ends(t, f, 100, 300, 300)
	f.Put(0x00400000)
	ends(t, f, 100, 300, 100)
	f.Step(14, 0xfffffffc)
	ends(t, f, 96, 300, 96)
	f.Put(0x09400005)
	ends(t, f, 96, 300, 300)
	f.SetStack(user, 400)
	f.SetStack(kernel, 500)
	ends(t, f, 500, 400, 400)
	f.Put(0x001f0000)
	ends(t, f, 500, 400, 500)
	f.Set(14, 0, 1)
	ends(t, f, 256, 400, 256)
	f.Put(0x01000000)
	f.Put(0)
	f.Put(0x01000000)
	ends(t, f, 256, 400, 400)
	steps(t, f, 1)
}

// P7.1: Put changes no register but 14, and by bit 24 alone.
func TestPutByOneBit(t *testing.T) {
	for i := range 32 {
		for _, from := range []uint32{0, 0x01400000, 0xfeffffff, 0xffffffff} {
			f := loaded(from)
			want := f.Save(full())
			want.PSL = from ^ 1<<i
			if i == 24 && from&(1<<24) == 0 {
				want.KSP, want.R[14] = 124, 102
			} else if i == 24 {
				want.USP, want.R[14] = 124, 101
			}
			f.Put(from ^ 1<<i)
			if got := f.Save(full()); got != want {
				t.Fatalf("from %08x Put(%08x): %x, want %x", from, from^1<<i, got, want)
			}
		}
	}
}

// P7.1: what stands beside of who runs is neither told by Stack nor changed by SetStack; it goes by Put away from him alone.
func TestBeside(t *testing.T) {
	f := loaded(0) // KSP 101, USP 102, register 14 is 124
	ends(t, f, 124, 102, 124)
	f.SetStack(kernel, 7)
	ends(t, f, 7, 102, 7)
	beside(t, f, 101, 102)
	f.SetStack(user, 8)
	ends(t, f, 7, 8, 7)
	beside(t, f, 101, 8)
	f.Put(0x01400000)
	ends(t, f, 7, 8, 8)
	beside(t, f, 7, 8)
	f.SetStack(user, 9)
	ends(t, f, 7, 9, 9)
	beside(t, f, 7, 8)
	f.SetStack(kernel, 10)
	ends(t, f, 10, 9, 9)
	beside(t, f, 10, 8)
	f.Put(0)
	ends(t, f, 10, 9, 10)
	beside(t, f, 10, 9)
}

// P7.1: SetStack changes one end alone, and no step.
func TestSetStack(t *testing.T) {
	for _, status := range []uint32{0, 0x01400000, 0xfeffffff, 0x01000000} {
		for _, x := range numbers {
			f := loaded(status)
			f.Step(14, 0)
			want := f.Save(full())
			f.SetStack(user, x)
			if status&0x01000000 != 0 {
				want.R[14] = x
			} else {
				want.USP = x
			}
			if got := f.Save(full()); got != want || f.Stack(user) != x {
				t.Fatalf("SetStack(user, %x): %x, want %x", x, got, want)
			}
			f.SetStack(kernel, x+1)
			if status&0x01000000 == 0 {
				want.R[14] = x + 1
			} else {
				want.KSP = x + 1
			}
			if got := f.Save(full()); got != want || f.Stack(kernel) != x+1 {
				t.Fatalf("SetStack(kernel, %x): %x, want %x", x+1, got, want)
			}
			steps(t, f, 1)
		}
	}
}

// P7.1: Load of states of the user, of the kernel, and of a status that can't be: register 14 is the end of who runs.
func TestLoad(t *testing.T) {
	for _, status := range append(append([]uint32{}, kernels...), users...) {
		f := loaded(0x01400000 ^ status)
		f.Set(2, 5, 4)
		f.Step(14, 9)
		s := full()
		s.PSL = status
		f.Load(s)
		steps(t, f, 0)
		for n := range 16 {
			is(t, f, n, uint32(110+n))
		}
		if f.Psl() != status {
			t.Fatalf("Psl: %08x, want %08x", f.Psl(), status)
		}
		if status&0x01000000 != 0 {
			ends(t, f, 101, 124, 124)
		} else {
			ends(t, f, 124, 102, 124)
		}
		beside(t, f, 101, 102)
	}
}

// P7.1: Save puts the registers, the status and both ends beside into a state; the rest of it stays.
func TestSave(t *testing.T) {
	f := regs.New()
	var s api.State
	for n := range s.R {
		s.R[n] = uint32(1000 + n)
	}
	s.PSL, s.KSP, s.USP = 0x01400003, 2000, 3000
	s.SCBB, s.Halt, s.Tables = 4000, 3, api.Tables{P0BR: 1, P0LR: 2, SBR: 3, SLR: 4, MAPEN: 5}
	f.Load(s)

	want := full()
	want.R, want.PSL, want.KSP, want.USP = s.R, 0x01400003, 2000, 3000
	handed := full()
	if got := f.Save(handed); got != want {
		t.Errorf("Save: %x, want %x", got, want)
	}
	if handed != full() {
		t.Error("Save changes what is handed in")
	}
	f.Save(handed)
	if f.Save(api.State{}).SCBB != 0 {
		t.Error("Save keeps what is handed in")
	}
	s.R[3], s.KSP = 1, 1
	is(t, f, 3, 1003)
	beside(t, f, 2000, 3000)
}

// P7.1: a nil one is all noughts, and takes nothing.
func TestNil(t *testing.T) {
	var f *regs.File
	for _, n := range append([]int{0, 3, 14, 15}, noRegister...) {
		for _, size := range append([]int{1, 2, 4}, noSize...) {
			if e := f.Set(n, 5, size); e != api.ErrNil {
				t.Fatalf("Set(%d, 5, %d): %d, want ErrNil", n, size, e)
			}
		}
		if e := f.Step(n, 5); e != api.ErrNil {
			t.Fatalf("Step(%d, 5): %d, want ErrNil", n, e)
		}
	}
	f.Put(0x01400000)
	f.SetStack(user, 6)
	f.SetStack(kernel, 7)
	f.Load(full())
	for _, n := range append([]int{0, 3, 14, 15}, noRegister...) {
		is(t, f, n, 0)
	}
	steps(t, f, 0)
	ends(t, f, 0, 0, 0)
	f.Undo()
	f.Forget()
	steps(t, f, 0)
	if f.Psl() != 0 || f.Save(full()) != full() || f.Save(api.State{}) != (api.State{}) {
		t.Error("a nil one has numbers")
	}
}

// P7.1: two of them know nothing of one another.
func TestTwo(t *testing.T) {
	a, b := regs.New(), regs.New()
	a.Load(full())
	a.Put(0x01400000)
	a.Step(3, 8)
	a.SetStack(kernel, 55)
	if b.Save(api.State{}) != (api.State{}) || b.Steps() != 0 {
		t.Fatal("the other one has numbers")
	}
	before := a.Save(full())
	b.Step(3, 1)
	b.Step(4, 2)
	b.Put(0x01400000)
	b.SetStack(user, 66)
	b.Undo()
	b.Load(api.State{})
	b.Forget()
	if a.Save(full()) != before || a.Steps() != 1 {
		t.Fatal("the first one isn't what it was")
	}
	a.Undo()
	is(t, a, 3, 113)
	is(t, b, 3, 0)
}
