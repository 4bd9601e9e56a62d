package arch

import (
	"camshaft/api"
	"camshaft/bits"
	"camshaft/isa"
	"camshaft/psl"
)

// flags: below this number is what the condition codes can be.
const flags = 16

// nothing is what NOP does.
func (d *doing) nothing() *raised { return nil }

// stand: the machine stands, if the kernel asks for it.
func (d *doing) stand() *raised {
	if d.user() {
		return fault(api.VecInstr)
	}
	d.halt = api.HaltAsked
	return nil
}

// point: a breakpoint; change: the kernel is asked for something.
func (d *doing) point() *raised { return fault(api.VecBreak) }

func (d *doing) change() *raised {
	return trap(api.VecChange, bits.Extend(d.args[0].x, 2))
}

// back: a handler ends.
func (d *doing) back() *raised {
	x, r := d.longs(d.file.Get(api.SP), 2)
	if r != nil {
		return r
	}
	if !psl.Back(d.file.Psl(), x[1]) {
		return fault(api.VecOperand)
	}
	// SP is that of who runs until now: the status comes behind it.
	d.add(api.SP, 2*long)
	d.file.Put(x[1])
	d.set(api.PC, x[0])
	return nil
}

// moveStatus: the status goes to an operand; changeStatus: some condition codes are set, or cleared.
func (d *doing) moveStatus() *raised { return d.result(d.args[0], d.file.Psl()) }

func (d *doing) changeStatus() *raised {
	x := d.args[0].x
	if x >= flags {
		return fault(api.VecOperand)
	}
	if d.op.Class == isa.Bis {
		d.file.Put(d.file.Psl() | x)
	} else {
		d.file.Put(d.file.Psl() &^ x)
	}
	return nil
}

// toProcessor: a processor register is a number; fromProcessor: its number goes to an operand.
func (d *doing) toProcessor() *raised {
	x := d.args[0].x
	if !d.setProcessor(d.args[1].x, x) {
		return fault(api.VecOperand)
	}
	d.codes(d.moved(x))
	return nil
}

func (d *doing) fromProcessor() *raised {
	x, is := d.processor(d.args[0].x)
	if !is {
		return fault(api.VecOperand)
	}
	return d.coded(d.args[1], x, d.moved(x))
}

// setProcessor: a processor register is x; false: there is none of that number.
func (m *Machine) setProcessor(n, x uint32) bool {
	switch n {
	case api.RegKSP, api.RegUSP:
		m.file.SetStack(n == api.RegUSP, x)
	case api.RegSCBB:
		m.scbb = x
	case api.RegIPL:
		m.file.Put(psl.At(m.file.Psl(), int(x%levels)))
	case api.RegTBIA, api.RegTBIS:
		// Nothing is ever buffered.
	default:
		t := m.mmu.Tables()
		of := inTables(&t, n)
		if of == nil {
			return false
		}
		*of = x
		m.mmu.Set(t)
	}
	return true
}

// processor: the number of a processor register; false: there is none to be read.
func (m *Machine) processor(n uint32) (uint32, bool) {
	switch n {
	case api.RegKSP, api.RegUSP:
		return m.file.Stack(n == api.RegUSP), true
	case api.RegSCBB:
		return m.scbb, true
	case api.RegIPL:
		return uint32(psl.Ipl(m.file.Psl())), true
	}
	t := m.mmu.Tables()
	if of := inTables(&t, n); of != nil {
		return *of, true
	}
	return 0, false
}

// inTables: the processor register of a number that is one of the tables; nil: none is.
func inTables(t *api.Tables, n uint32) *uint32 {
	switch n {
	case api.RegP0BR:
		return &t.P0BR
	case api.RegP0LR:
		return &t.P0LR
	case api.RegSBR:
		return &t.SBR
	case api.RegSLR:
		return &t.SLR
	case api.RegMAPEN:
		return &t.MAPEN
	}
	return nil
}

// levels: how many there are.
const levels = 32
