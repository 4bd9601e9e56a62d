package tlb_test

import (
	"fmt"
	"testing"
)

// drawn is a series of numbers that looks like one by chance, and is the same in every run.
type drawn struct{ last uint64 }

func (d *drawn) next(n int) int {
	d.last = d.last*6364136223846793005 + 1442695040888963407
	return int(d.last >> 33 % uint64(n))
}

// entry: now and then 0 or one of the other edges, mostly any number.
func (d *drawn) entry() uint32 {
	if d.next(4) == 0 {
		return edges[d.next(len(edges))]
	}
	return uint32(d.next(1<<31)) * 2654435761
}

// step does one call of a buffer and of its model.
func (d *drawn) step(p pair, pages []uint32) string {
	page := pages[d.next(len(pages))]
	switch k := d.next(40); {
	case k == 0:
		p.clear()
		return "Clear"
	case k < 12:
		p.drop(page)
		return fmt.Sprintf("Drop(%x)", page)
	default:
		p.put(page, d.entry())
		return fmt.Sprintf("Put(%x)", page)
	}
}

// P4.1: calls in mixed orders, of few pages and of many, of three buffers that know nothing of one another.
func TestMixedOrders(t *testing.T) {
	for seed := range 60 {
		d := &drawn{last: uint64(seed)}
		pages := edges[:3+d.next(len(edges)-2)]
		list := []pair{newPair(), newPair(), newPair()}
		for range 1000 {
			when := d.step(list[d.next(len(list))], pages)
			for i, p := range list {
				p.same(t, fmt.Sprintf("seed %d, buffer %d, %s", seed, i, when), edges...)
			}
		}
	}
}

// P4.1: each order of a few calls, from buffers of every length on.
func TestAllShortOrders(t *testing.T) {
	const steps = 4
	calls := []func(p pair){
		func(p pair) { p.put(0, 7) },
		func(p pair) { p.put(1, 8) },
		func(p pair) { p.put(8, 0) },
		func(p pair) { p.put(9, 9) },
		func(p pair) { p.drop(0) },
		func(p pair) { p.drop(3) },
		func(p pair) { p.drop(8) },
		pair.clear,
	}
	for n := range uint32(9) {
		for order := range 1 << (3 * steps) {
			p := newPair()
			for page := range n {
				p.put(page, page+50)
			}
			for k := range steps {
				calls[order>>(3*k)&7](p)
				p.same(t, fmt.Sprintf("%d pages, order %o, step %d", n, order, k), 0, 1, 2, 3, 8, 9)
			}
		}
	}
}
