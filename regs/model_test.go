package regs_test

import (
	"fmt"
	"testing"
)

// act does one call, drawn of all that change something, and tells it.
func (p pair) act(t *testing.T, d *draws) string {
	t.Helper()
	n, x := d.register(), d.number()
	switch d.below(16) {
	case 0, 1, 2:
		size := d.size()
		p.set(t, n, x, size)
		return fmt.Sprintf("Set(%d, %x, %d)", n, x, size)
	case 3, 4, 5, 6, 7:
		p.step(t, n, x)
		return fmt.Sprintf("Step(%d, %x)", n, x)
	case 8, 9:
		p.undo()
		return "Undo"
	case 10:
		p.forget()
		return "Forget"
	case 11, 12, 13:
		status := d.status()
		p.put(status)
		return fmt.Sprintf("Put(%08x)", status)
	case 14:
		user := d.below(2) == 0
		p.setStack(user, x)
		return fmt.Sprintf("SetStack(%v, %x)", user, x)
	}
	if d.below(4) != 0 {
		return "nothing"
	}
	p.load(d.state())
	return "Load"
}

// P7.1: calls in mixed orders answer what the model does.
func TestMixed(t *testing.T) {
	d := &draws{at: 7}
	for series := range 60 {
		p := newPair()
		p.same(t, "New")
		for i := range 300 {
			what := p.act(t, d)
			p.same(t, fmt.Sprintf("series %d, call %d, %s", series, i, what))
		}
	}
}

// calls: one of each kind, all of which show at register 14.
func calls() []func(t *testing.T, p pair) {
	s := full()
	return []func(t *testing.T, p pair){
		func(t *testing.T, p pair) { p.set(t, 14, 0xaa55, 2) },
		func(t *testing.T, p pair) { p.step(t, 14, 0xfffffff4) },
		func(t *testing.T, p pair) { p.undo() },
		func(t *testing.T, p pair) { p.forget() },
		func(t *testing.T, p pair) { p.put(0x01400000) },
		func(t *testing.T, p pair) { p.put(0x001f0000) },
		func(t *testing.T, p pair) { p.setStack(user, 0x3001) },
		func(t *testing.T, p pair) { p.setStack(kernel, 0x4001) },
		func(t *testing.T, p pair) { p.load(s) },
	}
}

// P7.1: every order of five calls, of all kinds.
func TestEveryOrder(t *testing.T) {
	list := calls()
	count := len(list) * len(list) * len(list) * len(list) * len(list)
	for order := range count {
		p := newPair()
		p.step(t, 14, 0x1000)
		for rest, i := order, 0; i < 5; rest, i = rest/len(list), i+1 {
			list[rest%len(list)](t, p)
		}
		p.same(t, fmt.Sprintf("order %d", order))
	}
}

// P7.1: two of them, called by turns, each go with a model of their own.
func TestTwoMixed(t *testing.T) {
	d := &draws{at: 11}
	both := []pair{newPair(), newPair()}
	for i := range 2000 {
		what := both[d.below(2)].act(t, d)
		for k, p := range both {
			p.same(t, fmt.Sprintf("call %d, %s, number %d", i, what, k))
		}
	}
}

// P7.1: Set of every register, every size, and numbers over numbers.
func TestSetModel(t *testing.T) {
	p := newPair()
	for n := -1; n <= 16; n++ {
		for _, size := range []int{-1, 0, 1, 2, 3, 4, 5, 8} {
			for _, old := range numbers {
				for _, x := range numbers {
					p.set(t, n, old, 4)
					p.set(t, n, x, size)
					if got, want := p.f.Get(n), uint32(p.m.r[n]); got != want {
						t.Fatalf("Set(%d, %x, 4), Set(%d, %x, %d): %x, want %x", n, old, n, x, size, got, want)
					}
				}
			}
			p.same(t, fmt.Sprintf("Set of %d, %d", n, size))
		}
	}
}

// P7.1: Put from every status to every other one, the end of either stack changed at each.
func TestPutModel(t *testing.T) {
	all := append(append([]uint32{}, kernels...), users...)
	p := newPair()
	x := uint32(1)
	for _, from := range all {
		for _, to := range all {
			p.put(from)
			p.setStack(x%2 == 0, x)
			p.step(t, 14, 3*x)
			p.same(t, fmt.Sprintf("Put(%08x)", from))
			p.put(to)
			p.same(t, fmt.Sprintf("Put(%08x), Put(%08x)", from, to))
			x++
		}
	}
	p.undo()
	p.same(t, "Undo of all")
}
