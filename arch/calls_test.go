package arch_test

import (
	"math/rand"
	"testing"

	"camshaft/api"
	"camshaft/arch"
	"camshaft/ram"
)

// strange: a state whose parts are all other ones.
func strange() api.State {
	s := api.State{PSL: 0xdeadbeef, KSP: 101, USP: 102, SCBB: 103, Tables: api.Tables{P0BR: 104, P0LR: 105, SBR: 106, SLR: 107, MAPEN: 108}}
	for n := range s.R {
		s.R[n] = uint32(0xfffffff0 + n)
	}
	return s
}

func TestNewIsNoughts(t *testing.T) {
	for _, r := range []*ram.Ram{nil, ram.New(0), ram.New(512)} {
		m := arch.New(r)
		if m == nil {
			t.Fatal("there is none")
		}
		if s := m.State(); s != (api.State{}) {
			t.Errorf("%+v", s)
		}
	}
}

func TestLoadIsState(t *testing.T) {
	m := arch.New(ram.New(512))
	for _, halt := range []int{0, 1, 2, 3, 4, -1, 1 << 40} {
		for _, user := range []uint32{0, 1 << 24} {
			s := strange()
			s.Halt, s.PSL = halt, s.PSL&^(1<<24)|user
			m.Load(s)
			if got := m.State(); got != s {
				t.Errorf("%+v, want %+v", got, s)
			}
			m.Load(api.State{})
			if got := m.State(); got != (api.State{}) {
				t.Errorf("%+v, want noughts", got)
			}
		}
	}
}

func TestNilMachine(t *testing.T) {
	var m *arch.Machine
	m.Load(strange())
	if s := m.State(); s != (api.State{}) {
		t.Errorf("%+v", s)
	}
	for _, lines := range []uint32{0, 1, 1 << 31} {
		if v, e := m.Step(lines); v != 0 || e != api.ErrNil {
			t.Errorf("%x, error %d", v, e)
		}
	}
}

// A memory that is nil has no bytes: neither the instruction is there nor the vector.
func TestNilMemory(t *testing.T) {
	for _, r := range []*ram.Ram{nil, ram.New(0)} {
		m := machine(r, api.State{})
		if v, e := m.Step(0); v != api.VecBus || e != api.OK || m.State() != (api.State{Halt: 3}) {
			t.Errorf("%x, error %d: %+v", v, e, m.State())
		}
		m = machine(r, api.State{})
		if v, e := m.Step(1 << 5); v != 0x114 || e != api.OK || m.State() != (api.State{Halt: 3}) {
			t.Errorf("%x, error %d: %+v", v, e, m.State())
		}
	}
}

// Who stands does nothing, whatever is on.
func TestStands(t *testing.T) {
	for _, halt := range []int{1, 2, 3, 4, 5, -1} {
		for _, lines := range []uint32{0, 1 << 31, 0xffffffff} {
			w := plain(assembled("MOVL #1, R1"))
			w.s.Halt = halt
			ahead := w.copy()
			if v, e := w.step(lines); v != 0 || e != api.ErrDone {
				t.Errorf("Halt %d: %x, error %d", halt, v, e)
			}
			if s := told(w, ahead); s != "" {
				t.Errorf("Halt %d:%s", halt, s)
			}
		}
	}
}

// It goes on where it stood, once it is loaded so.
func TestGoesOn(t *testing.T) {
	w := plain(assembled("HALT\nMOVL #1, R1"))
	r := memory(w.mem)
	m := machine(r, w.s)
	m.Step(0)
	s := m.State()
	s.Halt = 0
	m.Load(s)
	if v, e := m.Step(0); v != 0 || e != api.OK || m.State().R[1] != 1 {
		t.Errorf("%x, error %d: %+v", v, e, m.State())
	}
}

// highest: the highest line above a level, one by one.
func highest(level int, lines uint32) int {
	for n := 31; n > level; n-- {
		if lines>>n&1 == 1 {
			return n
		}
	}
	return 0
}

func TestLevel(t *testing.T) {
	random := rand.New(rand.NewSource(1))
	for level := range 32 {
		var list []uint32
		for n := range 32 {
			list = append(list, 1<<n, 1<<n|1, 1<<n-1, ^uint32(0)>>n, ^uint32(0)<<n, 1<<n|1<<level, 1<<n|1<<level>>1, random.Uint32(), random.Uint32()&random.Uint32())
		}
		for _, lines := range append(list, 0, 1) {
			for _, rest := range []uint32{0, 0xffe0ffff, random.Uint32() &^ 0x1f0000} {
				want := highest(level, lines)
				if got := arch.Level(uint32(level)<<16|rest, lines); got != want {
					t.Errorf("level %d, rest %x, lines %x: %d, want %d", level, rest, lines, got, want)
				}
			}
		}
	}
}

func TestLevelByHand(t *testing.T) {
	for _, x := range []struct {
		status, lines uint32
		want          int
	}{
		{0, 0, 0}, {0, 1, 0}, {0, 2, 1}, {0, 3, 1}, {0, 1 << 31, 31}, {0, 0xffffffff, 31},
		{3 << 16, 1 << 3, 0}, {3 << 16, 1<<3 | 1<<2 | 1, 0}, {3 << 16, 1 << 4, 4}, {3 << 16, 1<<9 | 1<<4, 9},
		{30 << 16, 1 << 31, 31}, {31 << 16, 0xffffffff, 0}, {31<<16 | 0xffe0ffff, 0xffffffff, 0},
		{0xffe0ffff, 2, 1}, {0x01400000, 1<<20 | 1<<19, 20},
	} {
		if got := arch.Level(x.status, x.lines); got != x.want {
			t.Errorf("%x, %x: %d, want %d", x.status, x.lines, got, x.want)
		}
	}
}
