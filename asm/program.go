package asm

import (
	"strings"

	"camshaft/api"
	"camshaft/isa"
	"camshaft/spec"
)

// maxSpace is how many noughts a directive makes at most.
const maxSpace = 4096

// program is what the lines so far have come to.
type program struct {
	code   []byte
	places map[string]int // those of the labels
	gaps   []gap          // in the order of their lines
}

// gap is an operand in the program whose value is a label's place, written with 0 as yet.
type gap struct {
	line       int
	at, behind int // where it begins, and where it is over
	as         operand
	use        api.Operand
}

// take takes in a line, of that number; false: it isn't as told.
func (p *program) take(text string, line int) bool {
	text, _, _ = strings.Cut(text, ";")
	text = strings.TrimSpace(text)
	if label, rest, is := strings.Cut(text, ":"); is {
		if !p.label(label) {
			return false
		}
		text = strings.TrimSpace(rest)
	}
	if text == "" {
		return true
	}
	word, rest, more := strings.Cut(text, " ")
	if strings.HasPrefix(word, ".") {
		return p.directive(word, rest)
	}
	var operands []string
	if more {
		operands = strings.Split(rest, ",")
	}
	return p.instruction(word, operands, line)
}

// label gives a label its place; false: it is none, or there already.
func (p *program) label(text string) bool {
	if _, is := register(text); is || !isName(text) {
		return false
	}
	if _, is := p.places[text]; is {
		return false
	}
	p.places[text] = len(p.code)
	return true
}

// directive does one with what stands behind its name; false: there is none such.
func (p *program) directive(name, rest string) bool {
	switch name {
	case ".space":
		return p.space(rest)
	case ".byte":
		return p.numbers(rest, 1)
	case ".word":
		return p.numbers(rest, 2)
	case ".long":
		return p.numbers(rest, 4)
	}
	return false
}

// space adds as many noughts as a text says.
func (p *program) space(text string) bool {
	n, is := number(strings.TrimSpace(text))
	if !is || n > maxSpace {
		return false
	}
	p.code = append(p.code, make([]byte, n)...)
	return true
}

// numbers adds the lowest bytes, as many as size, of each number of a list.
func (p *program) numbers(list string, size int) bool {
	for _, text := range strings.Split(list, ",") {
		n, is := number(strings.TrimSpace(text))
		if !is {
			return false
		}
		for i := range size {
			p.code = append(p.code, byte(n>>(8*i)))
		}
	}
	return true
}

// instruction adds one with its operands; false: there is none such.
func (p *program) instruction(name string, operands []string, line int) bool {
	i, is := isa.Find(name)
	if !is || len(operands) != len(i.Ops) {
		return false
	}
	p.code = append(p.code, byte(i.Code))
	for n, use := range i.Ops {
		as, is := read(strings.TrimSpace(operands[n]), use.Access)
		if !is || !p.add(as, use, line) {
			return false
		}
	}
	return true
}

// add adds an operand's bytes, with 0 for a label's place; false: it can't be written.
func (p *program) add(as operand, use api.Operand, line int) bool {
	b, e := spec.Encode(as.spec, use)
	if e != api.OK {
		return false
	}
	at := len(p.code)
	p.code = append(p.code, b...)
	if as.label != "" {
		p.gaps = append(p.gaps, gap{line: line, at: at, behind: len(p.code), as: as, use: use})
	}
	return true
}

// fill writes an operand with its label's place; false: that isn't there, or can't be written.
func (p *program) fill(g gap) bool {
	place, is := p.places[g.as.label]
	if !is {
		return false
	}
	if g.use.Access == 'b' {
		place -= g.behind
	}
	s := g.as.spec
	s.Value = uint32(place)
	b, e := spec.Encode(s, g.use)
	if e != api.OK {
		return false
	}
	// No kind that takes a label has more bytes for a greater number.
	copy(p.code[g.at:g.behind], b)
	return true
}
