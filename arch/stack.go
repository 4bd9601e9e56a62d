package arch

import (
	"camshaft/api"
	"camshaft/mmu"
	"camshaft/psl"
)

// What a procedure's frame tells beside registers, and what may not be told.
const (
	asideAt   = 30      // from this bit on: by how much the argument pointer isn't divided by four
	withCount = 1 << 29 // a number of arguments stands behind the frame
	maskAt    = 16      // from this bit on: which registers are saved
	saved     = 12      // how many can be
	badMask   = 3 << saved
	badFrame  = 1<<28 | 0xfff0
	framed    = 5    // how many numbers stand ahead of the registers
	counts    = 0xff // the bits of a number of arguments
	pushable  = 15   // how many registers can be pushed by a mask
)

// named: the registers, of the first n, whose bits in a mask are set, rising.
func named(mask uint32, n int) []int {
	var list []int
	for i := range n {
		if mask>>i&1 == 1 {
			list = append(list, i)
		}
	}
	return list
}

// registers: the numbers of these; setAll: they are these numbers.
func (m *Machine) registers(list []int) []uint32 {
	var x []uint32
	for _, n := range list {
		x = append(x, m.file.Get(n))
	}
	return x
}

func (m *Machine) setAll(list []int, x []uint32) {
	for i, n := range list {
		m.set(n, x[i])
	}
}

// pushRegisters: those that a mask names are pushed; popRegisters: they come back.
func (d *doing) pushRegisters() *raised {
	b := laid(d.registers(named(d.args[0].x, pushable))...)
	end := d.file.Get(api.SP) - uint32(len(b))
	d.set(api.SP, end)
	return d.store(end, b...)
}

func (d *doing) popRegisters() *raised {
	list := named(d.args[0].x, pushable)
	x, r := d.longs(d.file.Get(api.SP), len(list))
	if r != nil {
		return r
	}
	d.add(api.SP, uint32(long*len(list)))
	d.setAll(list, x)
	return nil
}

// calls: a procedure's frame is made, and the procedure begins.
func (d *doing) calls() *raised {
	procedure := d.args[1].at
	mask, r := d.get(procedure, 2)
	if r != nil {
		return r
	}
	if mask&badMask != 0 {
		return fault(api.VecOperand)
	}
	list := named(mask, saved)
	ap := d.file.Get(api.SP) - long
	// But for its lowest two bits the argument pointer falls out.
	w := ap<<asideAt | withCount | mask&(1<<saved-1)<<maskAt
	frame := append([]uint32{0, w}, d.registers([]int{api.AP, api.FP, api.PC})...)
	b := laid(append(frame, d.registers(list)...)...)
	fp := ap&^(long-1) - uint32(len(b))
	if r := d.storeBoth(ap, laid(d.args[0].x), fp, b); r != nil {
		return r
	}
	d.setAll([]int{api.AP, api.FP, api.SP, api.PC}, []uint32{ap, fp, fp, procedure + 2})
	d.codes(api.Flags{})
	return nil
}

// storeBoth writes bytes at one address, and then at another; if one can't be done, neither is.
func (d *doing) storeBoth(first uint32, a []byte, second uint32, b []byte) *raised {
	user := d.user()
	if r := missed(d.fresh().Probe(first, len(a), user, true)); r != nil {
		return r
	}
	if r := missed(d.fresh().Probe(second, len(b), user, true)); r != nil {
		return r
	}
	// The first write may change the page table so that the second one has a fault all the same: then the bytes go back to where they lay, by what is buffered.
	buffered := d.fresh()
	was, _ := buffered.Load(first, len(a), user)
	buffered.Store(first, user, a...)
	unbuffered := mmu.New(d.ram)
	unbuffered.Set(d.mmu.Tables())
	r := missed(unbuffered.Store(second, user, b...))
	if r != nil {
		buffered.Store(first, user, was...)
	}
	return r
}

// ret: a procedure ends; what its frame has comes back.
func (d *doing) ret() *raised {
	at := d.file.Get(api.FP)
	frame, r := d.longs(at, framed)
	if r != nil {
		return r
	}
	w := frame[1]
	if w&badFrame != 0 {
		return fault(api.VecOperand)
	}
	list := named(w>>maskAt, saved)
	at += long * framed
	x, r := d.longs(at, len(list))
	if r != nil {
		return r
	}
	at += uint32(long*len(list)) + w>>asideAt
	if w&withCount != 0 {
		n, r := d.get(at, long)
		if r != nil {
			return r
		}
		at += long + long*(n&counts)
	}
	d.setAll(list, x)
	d.setAll([]int{api.AP, api.FP, api.PC, api.SP}, append(frame[2:framed:framed], at))
	d.codes(psl.Flags(w))
	return nil
}
