package arch

import (
	"slices"

	"camshaft/api"
	"camshaft/psl"
)

// raised is why a handler is gone to: by which vector, what is pushed with it, and whether it comes behind the instruction, or undoes it. A nil one: nothing is raised.
type raised struct {
	vector int
	with   []uint32
	behind bool
}

// line: what an interrupt line of a level raises.
func line(level int) *raised { return &raised{vector: api.VecLines + 4*level} }

// fault: what undoes its instruction, by a vector; trap: what comes behind it, with a number.
func fault(vector int, with ...uint32) *raised { return &raised{vector: vector, with: with} }

func trap(vector int, with uint32) *raised {
	return &raised{vector: vector, with: []uint32{with}, behind: true}
}

// missed: what an access that isn't made raises; nil: it is made.
func missed(f api.Fault) *raised {
	switch f.Kind {
	case api.FaultNone:
		return nil
	case api.FaultAccess:
		return fault(api.VecAccess, f.Va, f.Info)
	case api.FaultInvalid:
		return fault(api.VecInvalid, f.Va, f.Info)
	}
	return fault(api.VecBus, 0)
}

// handle goes to the handler of what is raised, which runs at a level, or stands; it answers the vector.
func (m *Machine) handle(r *raised, level int) int {
	beginning, e := m.ram.Get(m.scbb+uint32(r.vector), long)
	frame := m.frame(r)
	end := m.file.Stack(false) - uint32(len(frame))
	switch {
	case e != api.OK:
		m.halt = api.HaltVector
	case beginning%long != 0:
		m.halt = api.HaltOdd
	case m.fresh().Store(end, false, frame...).Kind != api.FaultNone:
		m.halt = api.HaltStack
	default:
		m.file.Put(psl.Enter(m.file.Psl(), level))
		m.set(api.SP, end)
		m.set(api.PC, beginning)
	}
	return r.vector
}

// frame: what is pushed for what is raised, as it stands in the memory.
func (m *Machine) frame(r *raised) []byte {
	pushed := append([]uint32{m.file.Psl(), m.file.Get(api.PC)}, r.with...)
	// What is pushed first stands highest.
	slices.Reverse(pushed)
	return laid(pushed...)
}
