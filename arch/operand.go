package arch

import (
	"camshaft/api"
	"camshaft/bits"
	"camshaft/spec"
)

// none: the register of an operand that is none.
const none = -1

// operand is one that is evaluated: its size, its number, and the register, or the address, where it is.
type operand struct {
	size int
	x    uint32
	reg  int
	at   uint32
}

// fetch: the instruction's next byte.
func (m *Machine) fetch() (byte, *raised) {
	x, r := m.get(m.file.Get(api.PC), 1)
	if r == nil {
		m.add(api.PC, 1)
	}
	return byte(x), r
}

// specifier: the next one of the instruction. Not a byte is read that it doesn't have: what stands behind may not be there.
func (m *Machine) specifier(o api.Operand) (api.Spec, *raised) {
	var b []byte
	for {
		c, r := m.fetch()
		if r != nil {
			return api.Spec{}, r
		}
		b = append(b, c)
		s, e := spec.Decode(b, o)
		if e == api.ErrLong {
			continue
		}
		if s.Kind == api.SpecBad {
			return api.Spec{}, fault(api.VecMode)
		}
		return s, nil
	}
}

// evaluate: the next operand of the instruction.
func (m *Machine) evaluate(o api.Operand) (operand, *raised) {
	s, r := m.specifier(o)
	if r != nil {
		return operand{}, r
	}
	v := operand{size: o.Size, reg: none}
	switch s.Kind {
	case api.SpecLiteral, api.SpecNow:
		v.x = s.Value & bits.Mask(o.Size)
	case api.SpecRegister:
		v.reg = s.Reg
		v.x = m.file.Get(s.Reg) & bits.Mask(o.Size)
	default:
		v.at, r = m.address(s, o.Size)
		if r == nil && (o.Access == 'r' || o.Access == 'm') {
			v.x, r = m.get(v.at, o.Size)
		}
	}
	return v, r
}

// address: where an operand of a size is, by its specifier.
func (m *Machine) address(s api.Spec, size int) (uint32, *raised) {
	at, r := m.base(s, uint32(size))
	if s.Index != none {
		at += m.file.Get(s.Index) * uint32(size)
	}
	return at, r
}

// base: the same without the index. A register that steps has done so ahead of what comes next, which may name it, too.
func (m *Machine) base(s api.Spec, size uint32) (uint32, *raised) {
	reg := m.file.Get(s.Reg)
	switch s.Kind {
	case api.SpecDown:
		m.add(s.Reg, -size)
		return reg - size, nil
	case api.SpecUp:
		m.add(s.Reg, size)
	case api.SpecUpAt:
		m.add(s.Reg, long)
		return m.get(reg, long)
	case api.SpecNear:
		return reg + s.Value, nil
	case api.SpecNearAt:
		return m.get(reg+s.Value, long)
	case api.SpecAbs:
		return s.Value, nil
	}
	return reg, nil
}
