package asm

import (
	"strconv"
	"strings"

	"camshaft/api"
)

// none is the Index of a specifier that has none.
const none = -1

// literals is how many numbers a literal can be.
const literals = 64

// operand is one as it is written: its specifier, and the label whose place is its value, if it names one.
type operand struct {
	spec  api.Spec
	label string
}

// read: the operand of an access that a text says; false: none.
func read(text string, access byte) (operand, bool) {
	if access == 'b' {
		return valued(api.SpecNow, text)
	}
	index := none
	if rest, is := strings.CutSuffix(text, "]"); is {
		ahead, name, _ := strings.Cut(rest, "[")
		reg, is := register(name)
		if !is {
			return operand{}, false
		}
		text, index = ahead, reg
	}
	as, is := plain(text)
	as.spec.Index = index
	return as, is
}

// plain: the operand, without an index, that a text says; false: none.
func plain(text string) (operand, bool) {
	if rest, is := strings.CutPrefix(text, "@#"); is {
		return valued(api.SpecAbs, rest)
	}
	if rest, is := strings.CutPrefix(text, "#"); is {
		return immediate(rest)
	}
	if reg, is := register(text); is {
		return operand{spec: api.Spec{Kind: api.SpecRegister, Reg: reg}}, true
	}
	s, is := addressed(text)
	return operand{spec: s}, is
}

// valued: an operand of a kind whose value is a number, or a label's place; false: the text is neither.
func valued(kind int, text string) (operand, bool) {
	s := api.Spec{Kind: kind, Index: none}
	if n, is := number(text); is {
		s.Value = n
		return operand{spec: s}, true
	}
	// A register's name is taken for a label's, too: one that is nowhere.
	if isName(text) {
		return operand{spec: s, label: text}, true
	}
	return operand{}, false
}

// immediate: an operand that is a number itself, or a label's place.
func immediate(text string) (operand, bool) {
	as, is := valued(api.SpecNow, text)
	// How long it is mustn't hang on a label's place, so that one is never a literal.
	if as.label == "" && as.spec.Value < literals {
		as.spec.Kind = api.SpecLiteral
	}
	return as, is
}

// addressed: a specifier with a register in brackets; false: the text is none.
func addressed(text string) (api.Spec, bool) {
	rest, at := strings.CutPrefix(text, "@")
	rest, up := strings.CutSuffix(rest, "+")
	ahead, rest, _ := strings.Cut(rest, "(")
	name, closes := strings.CutSuffix(rest, ")")
	reg, is := register(name)
	if !closes || !is {
		return api.Spec{}, false
	}
	s := api.Spec{Reg: reg}
	switch {
	case up:
		s.Kind = either(at, api.SpecUpAt, api.SpecUp)
		return s, ahead == ""
	case ahead == "":
		s.Kind = api.SpecDeferred
		return s, !at
	case ahead == "-":
		s.Kind = api.SpecDown
		return s, !at
	}
	s.Kind = either(at, api.SpecNearAt, api.SpecNear)
	s.Value, is = number(ahead)
	return s, is
}

// either: the first kind, if at, and else the second.
func either(at bool, first, second int) int {
	if at {
		return first
	}
	return second
}

// told: an operand of an access as a text.
func told(s api.Spec, access byte) string {
	value := strconv.Itoa(int(int32(s.Value)))
	if access == 'b' {
		return value
	}
	text := ""
	switch s.Kind {
	case api.SpecLiteral, api.SpecNow:
		text = "#" + value
	case api.SpecAbs:
		text = "@#" + value
	case api.SpecRegister:
		text = named(s.Reg)
	case api.SpecDeferred:
		text = bracketed(s.Reg)
	case api.SpecDown:
		text = "-" + bracketed(s.Reg)
	case api.SpecUp:
		text = bracketed(s.Reg) + "+"
	case api.SpecUpAt:
		text = "@" + bracketed(s.Reg) + "+"
	case api.SpecNear:
		text = value + bracketed(s.Reg)
	case api.SpecNearAt:
		text = "@" + value + bracketed(s.Reg)
	}
	if s.Index != none {
		text += "[" + named(s.Index) + "]"
	}
	return text
}

// bracketed: a register's name in brackets.
func bracketed(reg int) string { return "(" + named(reg) + ")" }
