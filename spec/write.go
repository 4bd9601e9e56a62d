package spec

import "camshaft/api"

// told: a specifier with nothing but what its kind tells.
func told(s api.Spec) api.Spec {
	s.Index = max(s.Index, none)
	switch s.Kind {
	case api.SpecLiteral, api.SpecNow, api.SpecAbs:
		s.Reg = 0
	case api.SpecRegister, api.SpecDeferred, api.SpecDown, api.SpecUp, api.SpecUpAt:
		s.Value = 0
	}
	return s
}

// widths: how many bytes the number of a kind can have, the fewest first; nothing of a kind that can't be written.
func widths(kind, size int) []int {
	switch kind {
	case api.SpecLiteral, api.SpecRegister, api.SpecDeferred, api.SpecDown, api.SpecUp, api.SpecUpAt:
		return []int{0}
	case api.SpecNear, api.SpecNearAt:
		return []int{1, 2, 4}
	case api.SpecNow:
		return []int{size}
	case api.SpecAbs:
		return []int{absolute}
	}
	return nil
}

// written: a specifier's bytes, its number in so many of them; of what can't be written some other ones.
func written(s api.Spec, access byte, width int) []byte {
	var b []byte
	if s.Index != none {
		b = append(b, first(indexed, s.Index))
	}
	if access != 'b' {
		b = append(b, begin(s, width))
	}
	for i := range width {
		b = append(b, byte(s.Value>>(8*i)))
	}
	return b
}

// begin: the byte that says a kind, and how many bytes its number has.
func begin(s api.Spec, width int) byte {
	switch s.Kind {
	case api.SpecLiteral:
		return byte(s.Value & literal)
	case api.SpecNow:
		return first(api.SpecUp, api.PC)
	case api.SpecAbs:
		return first(api.SpecUpAt, api.PC)
	case api.SpecNear, api.SpecNearAt:
		// Of one, two and four bytes: the kind's own mode, the second one behind it, the fourth one.
		return first(s.Kind+width/2*2, s.Reg)
	}
	return first(s.Kind, s.Reg)
}

// first: the byte of a mode and a register.
func first(mode, reg int) byte { return byte(mode<<modeShift | reg&regMask) }
