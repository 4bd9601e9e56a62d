package arch

import (
	"bytes"
	"slices"

	"camshaft/api"
	"camshaft/bits"
	"camshaft/isa"
	"camshaft/psl"
)

// part is a string instruction that goes on: how many bytes are left, its byte, and how many bytes it has itself.
type part struct {
	*doing
	rem, char, length uint32
}

// goOn does one part of a string instruction that was begun.
func (d *doing) goOn() *raised {
	x := d.file.Get(0)
	p := &part{doing: d, rem: x & lowest, char: x >> charAt & 0xff, length: x >> lengthAt}
	d.set(api.PC, d.start)
	switch d.op.Class {
	case isa.Movc3:
		return p.move()
	case isa.Movc5:
		return p.fill()
	case isa.Cmpc3, isa.Cmpc5:
		return p.compare()
	}
	return p.search()
}

// over: the instruction ends, with codes.
func (p *part) over(f api.Flags) {
	p.set(api.PC, p.start+p.length)
	p.file.Put(p.file.Psl() &^ psl.FPD)
	p.codes(f)
}

// move: bytes, as many as the registers tell.
func (p *part) move() *raised {
	total := p.file.Get(2) & lowest
	if p.rem > total {
		return fault(api.VecOperand)
	}
	if r := p.moveChunk(total); r != nil {
		return r
	}
	if p.rem == 0 {
		p.ended(0, total, total)
		p.over(api.Flags{Z: true})
	}
	return nil
}

// fill: bytes are moved, and, if there is room for more, these are char.
func (p *part) fill() *raised {
	of, room := p.file.Get(2)&lowest, p.file.Get(2)>>upper
	n := min(of, room)
	if p.rem > n || p.file.Get(5) > room-n {
		return fault(api.VecOperand)
	}
	r := p.moveOrFill(n, room)
	if r == nil && p.rem == 0 && p.file.Get(5) == 0 {
		p.ended(of-n, n, room)
		p.over(bits.Compare(of, room, 2))
	}
	return r
}

// moveOrFill: none are filled as long as there are some to be moved.
func (p *part) moveOrFill(n, room uint32) *raised {
	if p.rem > 0 {
		return p.moveChunk(n)
	}
	left := p.file.Get(5)
	b := bytes.Repeat([]byte{byte(p.char)}, chunk(left))
	p.add(5, -uint32(len(b)))
	return p.store(p.file.Get(3)+room-left, b...)
}

// moveChunk: the next bytes of n.
func (p *part) moveChunk(n uint32) *raised {
	k := chunk(p.rem)
	by := n - p.rem
	if p.file.Get(4)&1 == 1 {
		by = p.rem - uint32(k)
	}
	b, r := p.load(p.file.Get(1)+by, k)
	if r != nil {
		return r
	}
	p.less(uint32(k))
	return p.store(p.file.Get(3)+by, b...)
}

// less: fewer bytes are left, by k.
func (p *part) less(k uint32) {
	p.rem -= k
	p.add(0, -k)
}

// ended: the registers behind bytes that were moved: how many there was no room for; how many were read, and written.
func (p *part) ended(left, read, written uint32) {
	p.add(1, read)
	p.add(3, written)
	p.setAll([]int{0, 2, 4, 5}, []uint32{left, 0, 0, 0})
}

// compare: the next bytes of two places, up to the first two that aren't the same.
func (p *part) compare() *raised {
	other := p.rem
	if p.op.Class == isa.Cmpc5 {
		other = p.file.Get(2) & lowest
	}
	a, r := p.load(p.file.Get(1), chunk(p.rem))
	if r != nil {
		return r
	}
	b, r := p.load(p.file.Get(3), chunk(other))
	if r != nil {
		return r
	}
	longest := max(len(a), len(b))
	n := 0
	for n < longest && p.at(a, n) == p.at(b, n) {
		n++
	}
	read, held := uint32(min(n, len(a))), uint32(min(n, len(b)))
	p.less(read)
	p.add(1, read)
	p.add(3, held)
	if n == longest && (p.rem > 0 || other > held) {
		if p.op.Class == isa.Cmpc5 {
			p.add(2, -held)
		}
		return nil
	}
	p.setAll([]int{0, 2}, []uint32{p.rem, other - held})
	// Behind the end of both stands char, which is the same as itself.
	p.over(bits.Compare(p.at(a, n), p.at(b, n), 1))
	return nil
}

// at: a byte of some; char stands for those that they have less.
func (p *part) at(b []byte, n int) uint32 {
	if n < len(b) {
		return uint32(b[n])
	}
	return p.char
}

// search: the next bytes, up to the first one that is char, or isn't.
func (p *part) search() *raised {
	b, r := p.load(p.file.Get(1), chunk(p.rem))
	if r != nil {
		return r
	}
	wanted := p.op.Class == isa.Locc
	n := slices.IndexFunc(b, func(c byte) bool { return uint32(c) == p.char == wanted })
	ahead := uint32(n)
	if n < 0 {
		ahead = uint32(len(b))
	}
	p.less(ahead)
	p.add(1, ahead)
	if n >= 0 || p.rem == 0 {
		p.set(0, p.rem)
		p.over(api.Flags{Z: p.rem == 0})
	}
	return nil
}

// chunk: how many of so many bytes one part does.
func chunk(n uint32) int { return int(min(n, api.MaxChunk)) }
