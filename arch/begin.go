package arch

import (
	"camshaft/api"
	"camshaft/psl"
)

// What register 0 tells of a string instruction beside how many bytes are left.
const (
	charAt   = 16 // from this bit on: a byte
	lengthAt = 24 // from this bit on: how many bytes the instruction has
	lowest   = 1<<charAt - 1
	upper    = 16 // from this bit on: register 2's other number
)

// begin: a string instruction is begun; the registers from 0 on are what goes on from part to part.
func (d *doing) begin(x ...uint32) *raised {
	x[0] |= (d.file.Get(api.PC) - d.start) << lengthAt
	for n, y := range x {
		d.set(n, y)
	}
	d.set(api.PC, d.start)
	d.file.Put(d.file.Psl() | psl.FPD)
	return nil
}

func (d *doing) beginMove() *raised {
	n, from, to := d.args[0].x, d.args[1].at, d.args[2].at
	return d.begin(n, from, n, to, within(n, from, to), 0)
}

func (d *doing) beginFill() *raised {
	of, from, fill, room, to := d.args[0].x, d.args[1].at, d.args[2].x, d.args[3].x, d.args[4].at
	n := min(of, room)
	return d.begin(n|fill<<charAt, from, of|room<<upper, to, within(n, from, to), room-n)
}

func (d *doing) beginCompare() *raised {
	return d.begin(d.args[0].x, d.args[1].at, 0, d.args[2].at)
}

func (d *doing) beginCompareFilled() *raised {
	n, a, fill, other, b := d.args[0].x, d.args[1].at, d.args[2].x, d.args[3].x, d.args[4].at
	return d.begin(n|fill<<charAt, a, other, b)
}

func (d *doing) beginSearch() *raised {
	char, n, at := d.args[0].x, d.args[1].x, d.args[2].at
	return d.begin(n|char<<charAt, at)
}

// within: 1, if bytes that are moved would be written over ahead of being read, unless the last ones are moved first; else 0.
func within(n, from, to uint32) uint32 {
	if by := to - from; 0 < by && by < n {
		return 1
	}
	return 0
}
