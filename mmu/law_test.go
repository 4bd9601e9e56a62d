package mmu_test

import (
	"fmt"
	"slices"
	"testing"

	"camshaft/api"
	"camshaft/mmu"
	"camshaft/ram"
)

// twins are two translations over memories that are the same, of which the second one is cleared ahead of each call.
type twins struct {
	ra, rb *ram.Ram
	a, b   *mmu.Mmu
	w      *model // of the first one: it knows where bytes are written
}

func (d *drawn) twins() *twins {
	size := []int{4096, 8192, 20000}[d.next(3)]
	ra := memory(size)
	for at := 0; at < 512; at += 4 {
		put(ra, uint32(at), d.entry(size/512))
	}
	rb := ra.Copy()
	o := &twins{ra: ra, rb: rb, a: mmu.New(ra), b: mmu.New(rb), w: &model{mem: whole(ra)}}
	// Tables that don't stand askew: a mark is a mark of whatever entry it is in.
	t := api.Tables{P0BR: uint32(d.next(64)) * 4, P0LR: uint32(d.next(30)), SBR: uint32(d.next(100)) * 4, SLR: uint32(d.next(30)), MAPEN: 1}
	o.a.Set(t)
	o.b.Set(t)
	o.w.set(t)
	return o
}

// call does one call in both; it answers what they answered, and the places that the model wrote to.
func (o *twins) call(d *drawn) (string, [2]string, []int) {
	o.b.Clear()
	va, n, user, write := d.va(), d.count(), d.next(2) == 0, d.next(2) == 0
	both := func(ask func(m *mmu.Mmu) string) [2]string { return [2]string{ask(o.a), ask(o.b)} }
	switch d.next(6) {
	case 0:
		o.w.access(va, n, user, write, true)
		return "Probe", both(func(m *mmu.Mmu) string { return fmt.Sprint(m.Probe(va, n, user, write)) }), nil
	case 1:
		o.w.access(va, n, user, false, true)
		return "Load", both(func(m *mmu.Mmu) string { return fmt.Sprint(m.Load(va, n, user)) }), nil
	case 2:
		o.w.access(va, 4, user, false, true)
		return "Get", both(func(m *mmu.Mmu) string { return fmt.Sprint(m.Get(va, 4, user)) }), nil
	case 3:
		return "Peek", both(func(m *mmu.Mmu) string { return fmt.Sprint(m.Peek(va, user)) }), nil
	case 4:
		o.a.Drop(va)
		o.w.drop(va)
		return "Drop", [2]string{}, nil
	}
	b := d.bytes(n, o.ra.Size()/512)
	places, _ := o.w.store(va, user, b)
	return "Store", both(func(m *mmu.Mmu) string { return fmt.Sprint(m.Store(va, user, b...)) }), places
}

// changed: whether a byte was written that is one of a buffered entry.
func (o *twins) changed(places []int) bool {
	for _, r := range o.w.rows {
		at := o.w.entryPlace(r.page * 512)
		if slices.ContainsFunc(places, func(place int) bool { return at <= place && place < at+4 }) {
			return true
		}
	}
	return false
}

// P5.3: as long as no buffered entry is written over, what is answered and what is written are as if nothing were buffered.
func TestAsIfNothingWereBuffered(t *testing.T) {
	calls, used := 0, 0
	for seed := range 900 {
		d := &drawn{last: uint64(seed)}
		o := d.twins()
		for i := range 60 {
			what, answers, places := o.call(d)
			if answers[0] != answers[1] {
				t.Fatalf("seed %d, step %d, %s: %s, without a buffer %s", seed, i, what, answers[0], answers[1])
			}
			if !slices.Equal(whole(o.ra), whole(o.rb)) {
				t.Fatalf("seed %d, step %d, %s: other memories", seed, i, what)
			}
			calls++
			used += len(o.a.Buffered())
			if o.changed(places) {
				break
			}
		}
	}
	if calls < 15000 || used < 2*calls {
		t.Errorf("just %d calls, with %d pages", calls, used)
	}
}

// P5.2: what was stored is loaded, at once, of addresses that have places of their own.
func TestStoredIsLoaded(t *testing.T) {
	_, m := straight(20)
	d := &drawn{last: 5}
	for range 2000 {
		va, n := uint32(d.next(12*512)), d.next(4097)
		b := d.bytes(n, 1)
		same(t, "Store", m.Store(va, true, b...), fine)
		got, f := m.Load(va, n, true)
		same(t, "fault", f, fine)
		if !slices.Equal(got, b) {
			t.Fatalf("Load(%x, %d): other bytes than were stored", va, n)
		}
	}
}

// P5.1: what may be done is done: Probe has the fault of the call that follows, if nothing is between.
func TestProbeTells(t *testing.T) {
	for seed := range 400 {
		d := &drawn{last: uint64(seed)}
		o := d.world()
		for range 40 {
			va, n, user := d.va(), d.count(), d.next(2) == 0
			f := o.m.Probe(va, n, user, false)
			_, g := o.m.Load(va, n, user)
			same(t, "Load", g, f)
			f = o.m.Probe(va, max(n, 0), user, true)
			g = o.m.Store(va, user, d.bytes(n, o.frames)...)
			same(t, "Store", g, f)
		}
	}
}
