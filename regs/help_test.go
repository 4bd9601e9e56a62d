package regs_test

import (
	"fmt"
	"math"
	"strconv"
	"testing"

	"camshaft/api"
	"camshaft/regs"
)

// added is a step of the model.
type added struct {
	n int
	d uint64
}

// model keeps each step by itself, writes numbers out to set their bytes, and reckons with 64 bits, so that it shares no way of reckoning with the package.
type model struct {
	r      map[int]uint64
	status uint64
	beside map[string]uint64
	steps  []added
}

func newModel() *model {
	m := &model{r: map[int]uint64{}, beside: map[string]uint64{"kernel": 0, "user": 0}}
	for n := range 16 {
		m.r[n] = 0
	}
	return m
}

// round: what is left of a number, 0 or above, modulo 2^32.
func round(x uint64) uint64 { return x % 4294967296 }

// digits: a number as eight hexadecimal digits.
func digits(x uint64) string { return fmt.Sprintf("%08x", x) }

// worth: what such digits are worth.
func worth(text string) uint64 {
	x, e := strconv.ParseUint(text, 16, 32)
	if e != nil {
		panic(e)
	}
	return x
}

// runs: who runs by a status.
func runs(status uint64) string {
	if status/16777216%2 == 1 {
		return "user"
	}
	return "kernel"
}

// name: who is meant by Stack's argument.
func name(user bool) string {
	if user {
		return "user"
	}
	return "kernel"
}

func (m *model) set(n int, x uint32, size int) api.Errno {
	if _, is := m.r[n]; !is || size != 1 && size != 2 && size != 4 {
		return api.ErrArg
	}
	kept := 8 - 2*size
	m.r[n] = worth(digits(m.r[n])[:kept] + digits(uint64(x))[kept:])
	return api.OK
}

func (m *model) step(n int, d uint32) api.Errno {
	if _, is := m.r[n]; !is {
		return api.ErrArg
	}
	m.r[n] = round(m.r[n] + uint64(d))
	m.steps = append(m.steps, added{n, uint64(d)})
	return api.OK
}

func (m *model) undo() {
	for len(m.steps) > 0 {
		last := m.steps[len(m.steps)-1]
		m.r[last.n] = round(m.r[last.n] + 4294967296 - last.d)
		m.steps = m.steps[:len(m.steps)-1]
	}
}

func (m *model) put(x uint32) {
	former, other := runs(m.status), runs(uint64(x))
	if former != other {
		m.beside[former] = m.r[14]
		m.r[14] = m.beside[other]
	}
	m.status = uint64(x)
}

func (m *model) stack(user bool) uint64 {
	if runs(m.status) == name(user) {
		return m.r[14]
	}
	return m.beside[name(user)]
}

func (m *model) setStack(user bool, x uint32) {
	if runs(m.status) == name(user) {
		m.r[14] = uint64(x)
	} else {
		m.beside[name(user)] = uint64(x)
	}
}

func (m *model) load(s api.State) {
	for n, x := range s.R {
		m.r[n] = uint64(x)
	}
	m.status = uint64(s.PSL)
	m.beside["kernel"], m.beside["user"] = uint64(s.KSP), uint64(s.USP)
	m.steps = nil
}

func (m *model) save(s api.State) api.State {
	for n := range 16 {
		s.R[n] = uint32(m.r[n])
	}
	s.PSL = uint32(m.status)
	s.KSP, s.USP = uint32(m.beside["kernel"]), uint32(m.beside["user"])
	return s
}

// pair is a File, and the model that it is held against.
type pair struct {
	f *regs.File
	m *model
}

func newPair() pair { return pair{regs.New(), newModel()} }

func (p pair) set(t *testing.T, n int, x uint32, size int) {
	t.Helper()
	if got, want := p.f.Set(n, x, size), p.m.set(n, x, size); got != want {
		t.Fatalf("Set(%d, %x, %d): %d, want %d", n, x, size, got, want)
	}
}

func (p pair) step(t *testing.T, n int, d uint32) {
	t.Helper()
	if got, want := p.f.Step(n, d), p.m.step(n, d); got != want {
		t.Fatalf("Step(%d, %x): %d, want %d", n, d, got, want)
	}
}

func (p pair) undo() {
	p.f.Undo()
	p.m.undo()
}

func (p pair) forget() {
	p.f.Forget()
	p.m.steps = nil
}

func (p pair) put(x uint32) {
	p.f.Put(x)
	p.m.put(x)
}

func (p pair) setStack(user bool, x uint32) {
	p.f.SetStack(user, x)
	p.m.setStack(user, x)
}

func (p pair) load(s api.State) {
	p.f.Load(s)
	p.m.load(s)
}

// same: every call that only asks answers what the model does.
func (p pair) same(t *testing.T, when string) {
	t.Helper()
	for n := -1; n <= 16; n++ {
		if got, want := p.f.Get(n), uint32(p.m.r[n]); got != want {
			t.Fatalf("%s: Get(%d): %x, want %x", when, n, got, want)
		}
	}
	for _, user := range []bool{false, true} {
		if got, want := p.f.Stack(user), uint32(p.m.stack(user)); got != want {
			t.Fatalf("%s: Stack(%v): %x, want %x", when, user, got, want)
		}
	}
	if got, want := p.f.Psl(), uint32(p.m.status); got != want {
		t.Fatalf("%s: Psl: %x, want %x", when, got, want)
	}
	if got, want := p.f.Steps(), len(p.m.steps); got != want {
		t.Fatalf("%s: Steps: %d, want %d", when, got, want)
	}
	for _, s := range []api.State{{}, full()} {
		if got, want := p.f.Save(s), p.m.save(s); got != want {
			t.Fatalf("%s: Save: %x, want %x", when, got, want)
		}
	}
}

// full: a state whose numbers are all another one, and none of them 0.
func full() api.State {
	s := api.State{PSL: 0x02800110, KSP: 101, USP: 102, SCBB: 103, Halt: 104}
	s.Tables = api.Tables{P0BR: 105, P0LR: 106, SBR: 107, SLR: 108, MAPEN: 109}
	for n := range s.R {
		s.R[n] = uint32(110 + n)
	}
	return s
}

// loaded: a File of the state full(), but for its status.
func loaded(status uint32) *regs.File {
	s := full()
	s.PSL = status
	f := regs.New()
	f.Load(s)
	return f
}

// is: a register is this number.
func is(t *testing.T, f *regs.File, n int, want uint32) {
	t.Helper()
	if got := f.Get(n); got != want {
		t.Fatalf("Get(%d): %x, want %x", n, got, want)
	}
}

// steps: there are so many.
func steps(t *testing.T, f *regs.File, want int) {
	t.Helper()
	if got := f.Steps(); got != want {
		t.Fatalf("Steps: %d, want %d", got, want)
	}
}

// ends: the kernel's stack's, the user's, and register 14 are these.
func ends(t *testing.T, f *regs.File, kernel, user, sp uint32) {
	t.Helper()
	if k, u, r := f.Stack(false), f.Stack(true), f.Get(14); k != kernel || u != user || r != sp {
		t.Fatalf("the kernel's end %x, the user's %x, register 14 %x, want %x, %x, %x", k, u, r, kernel, user, sp)
	}
}

// beside: Save tells these two.
func beside(t *testing.T, f *regs.File, ksp, usp uint32) {
	t.Helper()
	if s := f.Save(api.State{}); s.KSP != ksp || s.USP != usp {
		t.Fatalf("Save: KSP %x, USP %x, want %x, %x", s.KSP, s.USP, ksp, usp)
	}
}

// noRegister: numbers of none.
var noRegister = []int{-1, -2, -15, -16, -256, math.MinInt32, math.MinInt, math.MinInt + 3, 16, 17, 31, 32, 256, 259, math.MaxInt32, 1 << 32, 1<<32 + 3, math.MaxInt - 1, math.MaxInt}

// noSize: numbers that aren't one.
var noSize = []int{0, 3, 5, 6, 7, 8, 16, 257, 260, 1<<32 + 1, 1<<32 + 4, math.MaxInt, -1, -2, -4, math.MinInt + 4, math.MinInt}

// numbers: those at the ends of the sizes, and some whose bytes all differ.
var numbers = []uint32{0, 1, 4, 0x7f, 0x80, 0xff, 0x100, 0x7fff, 0x8000, 0xffff, 0x10000, 0x00ff00ff, 0x12345678, 0x7fffffff, 0x80000000, 0xfedcba98, 0xfffffff8, 0xfffffffc, 0xffffffff}

// Statuses of the kernel and of the user, and numbers that can't be a status but tell by bit 24 who runs.
var (
	kernels = []uint32{0, 0xf, 0x001f0000, 0x00400000, 0x08450005, 0x02000000, 0x00800000, 0x80000000, 0xfeffffff}
	users   = []uint32{0x01400000, 0x0140000f, 0x09400000, 0x01000000, 0x011f0000, 0x03000000, 0x81000000, 0xffffffff}
)

// draws: numbers that look mixed, and are the same at every run.
type draws struct{ at uint64 }

func (d *draws) below(n int) int {
	d.at = d.at*6364136223846793005 + 1442695040888963407
	return int(d.at >> 33 % uint64(n))
}

// number: one of numbers, or any other one.
func (d *draws) number() uint32 {
	if d.below(2) == 0 {
		return numbers[d.below(len(numbers))]
	}
	return uint32(d.below(1<<16))<<16 + uint32(d.below(1<<16))
}

// register: the number of one, seldom of none.
func (d *draws) register() int {
	switch d.below(8) {
	case 0:
		return noRegister[d.below(len(noRegister))]
	case 1, 2:
		return 14
	}
	return d.below(16)
}

// size: one, seldom none.
func (d *draws) size() int {
	if d.below(8) == 0 {
		return noSize[d.below(len(noSize))]
	}
	return 1 << d.below(3)
}

// status: one of the kernel, or of the user.
func (d *draws) status() uint32 {
	if d.below(2) == 0 {
		return kernels[d.below(len(kernels))]
	}
	return users[d.below(len(users))]
}

// state: any one.
func (d *draws) state() api.State {
	s := api.State{PSL: d.status(), KSP: d.number(), USP: d.number(), SCBB: d.number(), Halt: d.below(5)}
	s.Tables = api.Tables{P0BR: d.number(), P0LR: d.number(), SBR: d.number(), SLR: d.number(), MAPEN: d.number()}
	for n := range s.R {
		s.R[n] = d.number()
	}
	return s
}
