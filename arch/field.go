package arch

import (
	"camshaft/api"
	"camshaft/bits"
	"camshaft/shift"
)

// widest: how many bits a field has at most.
const widest = 32

// field is bits side by side, the first one counted from a register's, or a byte's, lowest one; in the memory also how many bytes they lie in. One of no bits lies nowhere.
type field struct {
	reg         int
	at          uint32
	first, size int
	bytes       int
}

// place: the field of a position and a size, counted from where an operand is.
func place(position, size uint32, v operand) (field, *raised) {
	switch {
	case size > widest:
		return field{}, fault(api.VecOperand)
	case size == 0:
		return field{reg: none}, nil
	case v.reg == none:
		first := int(position % 8)
		at := v.at + uint32(int32(position)>>3)
		return field{reg: none, at: at, first: first, size: int(size), bytes: shift.Span(first, int(size))}, nil
	case position > widest-size:
		return field{}, fault(api.VecOperand)
	}
	return field{reg: v.reg, first: int(position), size: int(size)}, nil
}

// row: the bits among which a field is.
func (d *doing) row(f field) (uint64, *raised) {
	if f.reg != none {
		return uint64(d.file.Get(f.reg)), nil
	}
	b, r := d.load(f.at, f.bytes)
	row := uint64(0)
	for i, c := range b {
		row |= uint64(c) << (8 * i)
	}
	return row, r
}

// extracted: the bits of a field.
func (d *doing) extracted(position, size uint32, v operand) (uint32, *raised) {
	f, r := place(position, size, v)
	if r != nil {
		return 0, r
	}
	row, r := d.row(f)
	return shift.Extract(row, f.first, f.size, d.op.Alu == 1), r
}

// extract: a field goes to an operand; insert: a number's lowest bits go into a field.
func (d *doing) extract() *raised {
	x, r := d.extracted(d.args[0].x, d.args[1].x, d.args[2])
	if r != nil {
		return r
	}
	return d.coded(d.args[3], x, bits.Signs(x, long))
}

func (d *doing) insert() *raised {
	f, r := place(d.args[1].x, d.args[2].x, d.args[3])
	if r != nil {
		return r
	}
	row, r := d.row(f)
	if r != nil {
		return r
	}
	row = shift.Insert(row, f.first, f.size, d.args[0].x)
	if f.reg != none {
		d.set(f.reg, uint32(row))
		return nil
	}
	return d.store(f.at, laid(uint32(row), uint32(row>>32))[:f.bytes]...)
}
