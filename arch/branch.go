package arch

import (
	"camshaft/api"
	"camshaft/bits"
	"camshaft/psl"
)

// branch: PC is more by the last operand, a displacement.
func (d *doing) branch() *raised { return d.branchIf(true) }

func (d *doing) branchIf(taken bool) *raised {
	if by := d.args[len(d.args)-1]; taken {
		d.add(api.PC, bits.Extend(by.x, by.size))
	}
	return nil
}

// branchOnCodes: if the codes are those of the instruction.
func (d *doing) branchOnCodes() *raised {
	return d.branchIf(psl.Branch(d.op.Code, psl.Flags(d.file.Psl())))
}

// branchOnLow: if the lowest bit of a number is that of the instruction; branchOnBit: if a bit is.
func (d *doing) branchOnLow() *raised { return d.branchIf(d.wants(d.args[0].x)) }

func (d *doing) branchOnBit() *raised {
	x, r := d.extracted(d.args[0].x, 1, d.args[1])
	if r != nil {
		return r
	}
	return d.branchIf(d.wants(x))
}

// wants: whether a number's lowest bit is that of the instruction.
func (d *doing) wants(x uint32) bool { return int(x&1) == d.op.Alu }

// countUp: one more, and a branch up to a bound; countDown: one less, and a branch down to nothing.
func (d *doing) countUp() *raised {
	x, f := bits.Add(d.args[1].x, 1, false, long)
	return d.counted(d.args[1], x, f, x, d.args[0].x)
}

func (d *doing) countDown() *raised {
	x, f := bits.Sub(d.args[0].x, 1, false, long)
	return d.counted(d.args[0], x, f, 0, x)
}

// counted: the count x goes to where it is; then a branch, if low is less than high, or also if it is that.
func (d *doing) counted(to operand, x uint32, f api.Flags, low, high uint32) *raised {
	f.C = d.carry()
	if r := d.coded(to, x, f); r != nil {
		return r
	}
	less, _ := bits.Less(low, high, long)
	return d.branchIf(less || low == high && d.op.Alu == 1)
}

// jump: PC is an address.
func (d *doing) jump() *raised {
	d.set(api.PC, d.args[0].at)
	return nil
}

// bsb and jsb: PC is pushed, ahead of a branch, or of a jump; rsb: it is the number that was pushed.
func (d *doing) bsb() *raised {
	if r := d.push(d.file.Get(api.PC)); r != nil {
		return r
	}
	return d.branch()
}

func (d *doing) jsb() *raised {
	if r := d.push(d.file.Get(api.PC)); r != nil {
		return r
	}
	return d.jump()
}

func (d *doing) rsb() *raised {
	to, r := d.get(d.file.Get(api.SP), long)
	if r == nil {
		d.add(api.SP, long)
		d.set(api.PC, to)
	}
	return r
}
