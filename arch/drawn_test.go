package arch_test

import (
	"fmt"
	"math/rand"
	"slices"
	"testing"

	"camshaft/api"
	"camshaft/isa"
)

// drawn makes worlds that look as if by chance, and are the same in every run.
type drawn struct{ *rand.Rand }

// Of worlds that are drawn: 16 pages, with the tables in the last one.
const (
	drawnSize   = 0x2000
	drawnTable  = 0x1e00
	drawnSystem = 0x1e80
)

func (d drawn) one(n int) bool { return d.Intn(n) == 0 }

func pick[T any](d drawn, list ...T) T { return list[d.Intn(len(list))] }

// address: mostly one of a page that is there, and often near its end.
func (d drawn) address() uint32 {
	x := uint32(d.Intn(drawnSize))
	if d.one(3) {
		x = x&^511 + uint32(512-8+d.Intn(16))
	}
	switch d.Intn(32) {
	case 0, 1:
		return x | 1<<31
	case 2:
		return d.Uint32()
	}
	return x
}

// number: of all kinds; many of them are addresses.
func (d drawn) number() uint32 {
	switch d.Intn(8) {
	case 0:
		return uint32(d.Intn(40))
	case 1:
		return -uint32(d.Intn(40))
	case 2:
		return d.Uint32()
	case 3:
		return pick(d, uint32(0x7fffffff), 0x80000000, 0x8000, 0x7fff, 0x80, 0x7f, 0xffff, 0x10000, 0)
	}
	return d.address()
}

// entry: mostly one that lets all be done.
func (d drawn) entry(page int) uint32 {
	x := 3<<27 | 1<<31 | uint32(page%16)
	if d.one(12) {
		x ^= uint32(d.Intn(4)) << 27
	}
	if d.one(20) {
		x ^= 1 << 31
	}
	if d.one(4) {
		x ^= 1 << 26
	}
	if d.one(40) {
		x ^= uint32(d.Intn(40))
	}
	return x
}

// memory: numbers of all kinds.
func (d drawn) memory() []byte {
	w := &world{mem: make([]byte, drawnSize)}
	for at := 0; at < drawnSize; at += 4 {
		w.long(at, d.number())
	}
	return w.mem
}

// world: a state, and a memory that is mostly as given; the instruction isn't there yet.
func (d drawn) world(mem []byte) *world {
	w := &world{mem: slices.Clone(mem)}
	for v := 0; v < 0x180; v += 4 {
		x := uint32(d.Intn(drawnSize)) &^ 3
		if d.one(30) {
			x++
		}
		w.long(0x200+v, x)
	}
	for n := range 32 {
		w.long(drawnTable+4*n, d.entry(n))
		w.long(drawnSystem+4*n, d.entry(n))
	}
	for n := range w.s.R {
		w.s.R[n] = d.number()
	}
	w.s.KSP, w.s.USP, w.s.SCBB = d.number(), d.number(), 0x200
	if !d.one(4) {
		w.s.R[14], w.s.KSP = uint32(0x600+d.Intn(0x600)), uint32(0xc00+d.Intn(0x400))
	}
	if d.one(40) {
		w.s.SCBB = d.address()
	}
	w.s.Tables = api.Tables{P0BR: drawnTable, P0LR: 16, SBR: drawnSystem, SLR: 16}
	if d.one(2) {
		w.s.Tables.MAPEN = pick(d, uint32(1), 2, 1<<31)
	}
	if d.one(20) {
		w.s.Tables.P0LR = uint32(d.Intn(40))
	}
	if d.one(60) {
		w.s.Tables.P0BR = d.address()
	}
	w.s.R[15] = d.address()
	w.s.PSL = d.status()
	return w
}

func (d drawn) status() uint32 {
	switch d.Intn(12) {
	case 0:
		return d.Uint32() &^ (1 << 27)
	case 1, 2, 3, 4:
		return 0x01400000 | uint32(d.Intn(16))
	}
	return uint32(d.Intn(16)) | uint32(d.Intn(32))<<16 | uint32(d.Intn(2))<<22
}

// poke puts bytes where an address leads, if it leads somewhere.
func (w *world) poke(va uint32, b []byte) {
	for i, c := range b {
		at := va + uint32(i)
		if w.s.Tables.MAPEN != 0 {
			t := uint32(drawnTable)
			if at >= 1<<31 {
				t = drawnSystem
			}
			at = w.of(int(t+at%(1<<14)/512*4))%(1<<21)*512 + at%512
		}
		if at < drawnSize {
			w.mem[at] = c
		}
	}
}

// specifier: an operand's bytes; mostly ones that can be.
func (d drawn) specifier(o api.Operand) []byte {
	if o.Access == 'b' {
		return d.bytes(o.Size)
	}
	r := byte(d.Intn(12))
	if d.one(8) {
		r = byte(d.Intn(16))
	}
	if d.one(40) {
		return d.bytes(1 + d.Intn(6))
	}
	var b []byte
	indexed := d.one(6)
	if indexed {
		b = append(b, 0x40|byte(d.Intn(15)))
	}
	switch {
	case o.Access == 'r' && !indexed && d.one(2):
		switch d.Intn(3) {
		case 0:
			return []byte{byte(d.Intn(64))}
		case 1:
			return []byte{byte(d.Intn(20))}
		}
		return append([]byte{0x8f}, d.little(d.number(), o.Size)...)
	case o.Access != 'a' && !indexed && d.one(2):
		return []byte{0x50 | r}
	}
	switch mode := byte(6 + d.Intn(10)); mode {
	case 6, 7, 8:
		return append(b, mode<<4|r)
	case 9:
		if d.one(2) {
			return append(append(b, 0x9f), d.little(d.address(), 4)...)
		}
		return append(b, mode<<4|r)
	case 10, 11:
		return append(append(b, mode<<4|r), d.bytes(1)...)
	case 12, 13:
		return append(append(b, mode<<4|r), d.little(uint32(d.Intn(600)-300), 2)...)
	default:
		return append(append(b, mode<<4|r), d.little(d.number(), 4)...)
	}
}

func (d drawn) bytes(n int) []byte {
	b := make([]byte, n)
	d.Read(b)
	return b
}

func (d drawn) little(x uint32, n int) []byte { return bytesOf([]uint32{x})[:n] }

// instruction: its bytes; mostly one that there is.
func (d drawn) instruction(code byte) []byte {
	b := []byte{code}
	op, is := isa.Of(int(code))
	if !is {
		return append(b, d.bytes(8)...)
	}
	for i, o := range op.Ops {
		// A field is mostly near, and not too large.
		if code>>1 == 0x77 && i < 2 && !d.one(4) || code == 0xf0 && (i == 1 || i == 2) && !d.one(4) {
			b = append(b, byte(d.Intn(34)))
			continue
		}
		// Of processor registers there are few.
		if (code == 0xda && i == 1 || code == 0xdb && i == 0) && !d.one(4) {
			b = append(b, pick[byte](d, 0, 3, 8, 9, 12, 13, 17, 18, 56, 57, 58))
			continue
		}
		b = append(b, d.specifier(o)...)
	}
	return b
}

// fit makes what an instruction takes from registers and stacks more often something that it can take.
func (d drawn) fit(w *world, code byte) {
	at := uint32(0x600 + d.Intn(0xa00))
	mask := uint32(d.Intn(1 << 16))
	switch code {
	case 0x02:
		w.s.R[14] = at
		w.poke(at+4, d.little(d.status()|uint32(d.Intn(2))<<27, 4))
	case 0x04:
		w.s.R[13] = at
		w.poke(at+4, d.little(mask<<16&^(1<<28)|uint32(d.Intn(16))|pick(d, uint32(0), 0, 0, 1<<(4+d.Intn(12))), 4))
	case 0xfb:
		w.s.R[1] = at
		w.poke(at, d.little(pick(d, mask&^0x3000, mask), 2))
	case 0x28, 0x29, 0x2c, 0x2d, 0x3a, 0x3b:
		if d.one(2) {
			w.s.PSL |= 1 << 27
		}
		rem := uint32(d.Intn(20))
		w.s.R[0] = rem + d.Uint32()<<16
		w.s.R[1], w.s.R[3] = at, at+uint32(d.Intn(40)-20)
		w.s.R[2] = rem + uint32(d.Intn(6)) + uint32(d.Intn(30))<<16
		w.s.R[5] = uint32(d.Intn(12))
		d.alike(w)
	}
}

// alike makes the bytes alike that a string instruction looks at.
func (d drawn) alike(w *world) {
	char := byte(w.s.R[0] >> 16)
	b := make([]byte, 24)
	for i := range b {
		b[i] = char
	}
	w.poke(w.s.R[1], b)
	w.poke(w.s.R[3], b)
	for range d.Intn(4) {
		w.poke(w.s.R[1]+uint32(d.Intn(24)), d.bytes(1))
	}
}

// tally is what was come to, by instruction and by vector.
type tally struct {
	done   [256]int
	raised map[int]int
	halts  map[int]int
}

// run does steps in a world of the machine and of the model.
func (o *tally) run(d drawn, w *world, steps int) error {
	r := memory(w.mem)
	m := machine(r, w.s)
	for n := range steps {
		lines := uint32(0)
		if d.one(16) {
			lines = 1 << d.Intn(32) & d.Uint32()
		}
		was := w.copy()
		want, wrong := (&model{world: w}).step(lines)
		v, e := m.Step(lines)
		got := &world{m.State(), all(r)}
		if v != want || e != wrong {
			return fmt.Errorf("step %d: vector %x, error %d, want %x, %d; %+v", n, v, e, want, wrong, was.s)
		}
		if s := told(got, w); s != "" {
			return fmt.Errorf("step %d:%s, vector %x, of %+v", n, s, v, was.s)
		}
		o.raised[v]++
		o.halts[w.s.Halt]++
		if v == 0 && e == api.OK && n == 0 {
			o.done[code(was)]++
		}
	}
	return nil
}

// code: the byte at PC.
func code(w *world) byte {
	var x uint32
	if _, raised := caught(func() { x = (&model{world: w}).number(w.s.R[15], 1) }); raised {
		return 0xff
	}
	return byte(x)
}

func TestMachinesThatAreDrawn(t *testing.T) {
	d := drawn{rand.New(rand.NewSource(13))}
	o := &tally{raised: map[int]int{}, halts: map[int]int{}}
	list := codes()
	var mem []byte
	for n := range 60000 {
		if n%16 == 0 {
			mem = d.memory()
		}
		w := d.world(mem)
		b := byte(list[n%len(list)])
		if d.one(50) {
			b = byte(d.Intn(256))
		}
		i := d.instruction(b)
		w.poke(w.s.R[15], i)
		d.fit(w, b)
		// Behind what is raised there is a handler of any bytes.
		steps := pick(d, 1, 1, 3)
		if err := o.run(d, w, steps); err != nil {
			t.Fatalf("world %d, %x: %s", n, i, err)
		}
	}
	o.enough(t)
}

// enough fails unless all that there is was come to.
func (o *tally) enough(t *testing.T) {
	for _, code := range codes() {
		if code != 0x03 && code != 0xbc && o.done[code] < 20 {
			t.Errorf("%x was done %d times", code, o.done[code])
		}
	}
	for _, v := range []int{0x04, 0x10, 0x18, 0x1c, 0x20, 0x24, 0x2c, 0x34, 0x40, 0x104, 0x17c} {
		if o.raised[v] < 20 {
			t.Errorf("%x was raised %d times", v, o.raised[v])
		}
	}
	for halt := 1; halt < 5; halt++ {
		if o.halts[halt] < 20 {
			t.Errorf("Halt %d: %d times", halt, o.halts[halt])
		}
	}
}
