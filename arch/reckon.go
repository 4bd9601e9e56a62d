package arch

import (
	"camshaft/alu"
	"camshaft/api"
	"camshaft/isa"
	"camshaft/shift"
)

// undivided: the number that comes with the trap of a division by nothing.
const undivided = 2

// reckon: the ALU's result, where there is one to be kept, and its codes.
func (d *doing) reckon() *raised {
	last := d.args[len(d.args)-1]
	// Of one operand alone the other number plays no part.
	a, b := d.args[0], d.args[min(1, len(d.args)-1)]
	x, f, ok := alu.Do(d.op.Alu, a.x, b.x, d.carry(), a.size)
	if d.op.Class != isa.Tst && d.op.Class != isa.Pair {
		if r := d.result(last, x); r != nil {
			return r
		}
	}
	d.codes(f)
	if !ok {
		return trap(api.VecDivide, undivided)
	}
	return nil
}

// convert: a number of one size as one of another.
func (d *doing) convert() *raised {
	a, to := d.args[0], d.args[1]
	x, f := alu.Convert(a.x, a.size, to.size, d.op.Class == isa.Cvt, d.carry())
	return d.coded(to, x, f)
}

// shift and turn: a long number, by a count.
func (d *doing) shift() *raised {
	x, f := shift.Ash(byte(d.args[0].x), d.args[1].x)
	return d.coded(d.args[2], x, f)
}

func (d *doing) turn() *raised {
	x, f := shift.Rot(byte(d.args[0].x), d.args[1].x, d.carry())
	return d.coded(d.args[2], x, f)
}

// moved: the codes of a long number that is moved.
func (d *doing) moved(x uint32) api.Flags {
	_, f, _ := alu.Do(alu.Mov, x, 0, d.carry(), long)
	return f
}

// moveAddress: an operand's address goes to another one.
func (d *doing) moveAddress() *raised {
	at := d.args[0].at
	return d.coded(d.args[1], at, d.moved(at))
}

// pushAddress and pushNumber: an operand's address, or number, is pushed.
func (d *doing) pushAddress() *raised { return d.pushMoved(d.args[0].at) }

func (d *doing) pushNumber() *raised { return d.pushMoved(d.args[0].x) }

func (d *doing) pushMoved(x uint32) *raised {
	d.codes(d.moved(x))
	return d.push(x)
}
