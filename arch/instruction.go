package arch

import (
	"camshaft/api"
	"camshaft/isa"
	"camshaft/psl"
)

// doing is an instruction that is done: where it begins, and its operands, evaluated.
type doing struct {
	*Machine
	start uint32
	op    api.Opcode
	args  []operand
}

// instruction does the one at PC, or a part of it; what is raised.
func (m *Machine) instruction() *raised {
	d := &doing{Machine: m, start: m.file.Get(api.PC)}
	code, r := m.fetch()
	if r != nil {
		return r
	}
	op, is := isa.Of(int(code))
	if !is || !m.lets(op.Class) {
		return fault(api.VecInstr)
	}
	d.op = op
	if m.begun() {
		return d.goOn()
	}
	for _, o := range op.Ops {
		v, r := m.evaluate(o)
		if r != nil {
			return r
		}
		d.args = append(d.args, v)
	}
	return d.do()
}

// begun: whether an instruction was begun, and not ended.
func (m *Machine) begun() bool { return m.file.Psl()&psl.FPD != 0 }

// lets: whether the status lets instructions of a class be done.
func (m *Machine) lets(class int) bool {
	if m.begun() {
		return isa.String(class)
	}
	return !m.user() || class != isa.Mtpr && class != isa.Mfpr
}

// do does the instruction, by its class.
func (d *doing) do() *raised {
	ways := [...]func(*doing) *raised{
		isa.Halt: (*doing).stand, isa.Nop: (*doing).nothing, isa.Rei: (*doing).back,
		isa.Bpt: (*doing).point, isa.Chmk: (*doing).change,
		isa.Ret: (*doing).ret, isa.Rsb: (*doing).rsb, isa.Bsb: (*doing).bsb, isa.Jsb: (*doing).jsb,
		isa.Br: (*doing).branch, isa.Bcc: (*doing).branchOnCodes, isa.Jmp: (*doing).jump,
		isa.Blb: (*doing).branchOnLow, isa.Bb: (*doing).branchOnBit,
		isa.Aob: (*doing).countUp, isa.Sob: (*doing).countDown,
		isa.One: (*doing).reckon, isa.Own: (*doing).reckon, isa.Two: (*doing).reckon,
		isa.Three: (*doing).reckon, isa.Tst: (*doing).reckon, isa.Pair: (*doing).reckon,
		isa.Cvt: (*doing).convert, isa.Movz: (*doing).convert,
		isa.Mova: (*doing).moveAddress, isa.Pusha: (*doing).pushAddress, isa.Pushl: (*doing).pushNumber,
		isa.Ash: (*doing).shift, isa.Rot: (*doing).turn,
		isa.Ext: (*doing).extract, isa.Ins: (*doing).insert,
		isa.Calls: (*doing).calls, isa.Pushr: (*doing).pushRegisters, isa.Popr: (*doing).popRegisters,
		isa.Movpsl: (*doing).moveStatus, isa.Bis: (*doing).changeStatus, isa.Bic: (*doing).changeStatus,
		isa.Mtpr: (*doing).toProcessor, isa.Mfpr: (*doing).fromProcessor,
		isa.Movc3: (*doing).beginMove, isa.Movc5: (*doing).beginFill,
		isa.Cmpc3: (*doing).beginCompare, isa.Cmpc5: (*doing).beginCompareFilled,
		isa.Locc: (*doing).beginSearch, isa.Skpc: (*doing).beginSearch,
	}
	return ways[d.op.Class](d)
}

// result: a number goes to where an operand is.
func (d *doing) result(to operand, x uint32) *raised {
	if to.reg == none {
		return d.put(to.at, x, to.size)
	}
	d.file.Set(to.reg, x, to.size)
	return nil
}

// coded: the same, and these are the codes.
func (d *doing) coded(to operand, x uint32, f api.Flags) *raised {
	r := d.result(to, x)
	d.codes(f)
	return r
}
