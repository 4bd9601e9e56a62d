package spec

import (
	"camshaft/api"
	"camshaft/bits"
)

// register: the number of the register that a byte names.
func register(x byte) int { return int(x & regMask) }

// bad: what is told of a specifier that can't be, of which so many bytes were looked at.
func bad(looked int) api.Spec {
	return api.Spec{Kind: api.SpecBad, Index: none, Bytes: looked}
}

// head: what an operand's byte says, and how many bytes of a number stand behind it.
func head(x byte, size int) (api.Spec, int) {
	mode, reg := int(x>>modeShift), register(x)
	switch {
	case mode < indexed:
		return api.Spec{Kind: api.SpecLiteral, Value: uint32(x & literal)}, 0
	case mode == indexed:
		return api.Spec{Kind: api.SpecBad}, 0
	case mode == api.SpecUp && reg == api.PC:
		return api.Spec{Kind: api.SpecNow}, size
	case mode == api.SpecUpAt && reg == api.PC:
		return api.Spec{Kind: api.SpecAbs}, absolute
	case mode < api.SpecNear:
		return api.Spec{Kind: mode, Reg: reg}, 0
	}
	// From here on the modes come by twos, each two with a number twice as long as that of the two ahead.
	over := mode - api.SpecNear
	return api.Spec{Kind: api.SpecNear + over%2, Reg: reg}, 1 << (over / 2)
}

// can: whether an operand of an access can be so.
func can(s api.Spec, access byte) bool {
	switch s.Kind {
	case api.SpecBad:
		return false
	case api.SpecLiteral, api.SpecNow:
		return access == 'r' && s.Index == none
	case api.SpecRegister:
		return access != 'a' && s.Index == none && s.Reg != api.PC
	case api.SpecDeferred, api.SpecDown:
		return s.Reg != api.PC
	}
	return true
}

// behind: a specifier with the number that stands from a place on in so many bytes; ErrLong: they aren't there.
func behind(b []byte, at int, s api.Spec, width int) (api.Spec, api.Errno) {
	s.Bytes = at + width
	if s.Bytes > len(b) {
		return api.Spec{}, api.ErrLong
	}
	if width > 0 {
		s.Value = number(b[at:s.Bytes])
	}
	return s, api.OK
}

// number: the one that bytes are, the lowest first, with its sign.
func number(b []byte) uint32 {
	x := uint32(0)
	for i, c := range b {
		x |= uint32(c) << (8 * i)
	}
	return bits.Extend(x, len(b))
}
