package uword_test

import (
	"math/rand"
	"sync"
	"testing"

	"camshaft/api"
	"camshaft/uword"
)

// there fails unless a word that can be comes back from its number.
func there(t *testing.T, w api.Word) {
	t.Helper()
	x, e := uword.Pack(w)
	if e != api.OK {
		t.Fatalf("Pack(%+v): %d", w, e)
	}
	if y := uword.Unpack(x); y != w {
		t.Fatalf("Unpack of Pack(%+v): %+v", w, y)
	}
}

// back fails unless a number is that of the word that it is, which can be.
func back(t *testing.T, x uint64) {
	t.Helper()
	w := uword.Unpack(x)
	if !uword.Good(w) {
		t.Fatalf("Unpack(%x) can't be: %+v", x, w)
	}
	if y, e := uword.Pack(w); y != x || e != api.OK {
		t.Fatalf("Pack of Unpack(%x): %x, %d", x, y, e)
	}
}

// P14.2: of each part at both ends, and of drawn words.
func TestWordComesBack(t *testing.T) {
	there(t, api.Word{})
	there(t, mixed())
	for _, f := range rows() {
		for _, w := range []api.Word{{}, mixed()} {
			for _, x := range []int{0, 1, f.most - 1, f.most} {
				*f.part(&w) = x
				there(t, w)
			}
		}
	}
	r := rand.New(rand.NewSource(143))
	for range 50000 {
		there(t, drawnGood(r))
	}
}

// P14.2: of each bit, of all but one, and of drawn numbers.
func TestNumberComesBack(t *testing.T) {
	back(t, 0)
	back(t, ^uint64(0))
	for bit := range 64 {
		back(t, 1<<bit)
		back(t, ^(uint64(1) << bit))
	}
	r := rand.New(rand.NewSource(144))
	for range 50000 {
		back(t, drawnNumber(r))
	}
}

// P14.1: what was put is got, and each other part is what it was.
func TestPutIsGot(t *testing.T) {
	r := rand.New(rand.NewSource(145))
	for range 2000 {
		w := drawnAny(r)
		for _, f := range rows() {
			x := drawnFit(r, f)
			y, e := uword.Set(w, f.name, x)
			if e != api.OK {
				t.Fatalf("Set(%+v, %q, %d): %d", w, f.name, x, e)
			}
			for _, g := range uword.Fields() {
				want := uword.Get(w, g.Name)
				if g.Name == f.name {
					want = x
				}
				if got := uword.Get(y, g.Name); got != want {
					t.Fatalf("Set(%+v, %q, %d), then Get(%q): %d", w, f.name, x, g.Name, got)
				}
			}
		}
	}
}

// Rule 4: no call hangs on the calls ahead of it, nor on those at the same time.
func TestAtTheSameTime(t *testing.T) {
	var all sync.WaitGroup
	for seed := range 8 {
		all.Go(func() {
			r := rand.New(rand.NewSource(int64(seed)))
			for range 3000 {
				w := drawnAny(r)
				x, e := uword.Pack(w)
				if can(w) != (e == api.OK) || e == api.OK && x != model(w) {
					t.Errorf("Pack(%+v): %x, %d", w, x, e)
					return
				}
				fields := uword.Fields()
				i := r.Intn(len(fields))
				f := rows()[i]
				if fields[i] != (uword.Field{Name: f.name, Bits: f.bits}) {
					t.Errorf("field %d: %v", i, fields[i])
					return
				}
				fields[i] = uword.Field{}
				if y := uword.Unpack(drawnNumber(r)); !uword.Good(y) || uword.Get(y, f.name) != *f.part(&y) {
					t.Errorf("%+v", y)
					return
				}
			}
		})
	}
	all.Wait()
}
