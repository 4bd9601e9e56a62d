package arch

import (
	"camshaft/api"
	"camshaft/mmu"
	"camshaft/psl"
)

// long: how many bytes a long number has.
const long = 4

// fresh: the addresses, as if nothing were ever buffered.
func (m *Machine) fresh() *mmu.Mmu {
	m.mmu.Clear()
	return m.mmu
}

// user: whether the user runs.
func (m *Machine) user() bool { return psl.IsUser(m.file.Psl()) }

// load: so many bytes, read at once by who runs; store writes bytes at once.
func (m *Machine) load(va uint32, n int) ([]byte, *raised) {
	b, f := m.fresh().Load(va, n, m.user())
	return b, missed(f)
}

func (m *Machine) store(va uint32, b ...byte) *raised {
	return missed(m.fresh().Store(va, m.user(), b...))
}

// get: the number in so many bytes; put puts one there.
func (m *Machine) get(va uint32, size int) (uint32, *raised) {
	x, f := m.fresh().Get(va, size, m.user())
	return x, missed(f)
}

func (m *Machine) put(va, x uint32, size int) *raised {
	return missed(m.fresh().Put(va, x, size, m.user()))
}

// longs: so many long numbers, read at once.
func (m *Machine) longs(va uint32, n int) ([]uint32, *raised) {
	b, r := m.load(va, long*n)
	list := make([]uint32, len(b)/long)
	for i, c := range b {
		list[i/long] |= uint32(c) << (8 * (i % long))
	}
	return list, r
}

// laid: long numbers as they stand in a memory.
func laid(list ...uint32) []byte {
	var b []byte
	for _, x := range list {
		b = append(b, byte(x), byte(x>>8), byte(x>>16), byte(x>>24))
	}
	return b
}

// set: a register is a number; add: it is more by one.
func (m *Machine) set(n int, x uint32) { m.file.Set(n, x, long) }

func (m *Machine) add(n int, x uint32) { m.set(n, m.file.Get(n)+x) }

// push: a number is pushed onto the stack of who runs.
func (m *Machine) push(x uint32) *raised {
	end := m.file.Get(api.SP) - long
	r := m.put(end, x, long)
	if r == nil {
		m.set(api.SP, end)
	}
	return r
}

// carry: whether the status has C; codes: it has these.
func (m *Machine) carry() bool { return psl.Flags(m.file.Psl()).C }

func (m *Machine) codes(f api.Flags) { m.file.Put(psl.With(m.file.Psl(), f)) }
