package regs_test

import (
	"testing"

	"camshaft/api"
	"camshaft/regs"
)

// step is one that is tried; n may be no register.
type step struct {
	n int
	d uint32
}

// stepsOf: count of them, drawn by a function.
func stepsOf(count int, draw func(i int) step) []step {
	var list []step
	for i := range count {
		list = append(list, draw(i))
	}
	return list
}

// series: steps of one register, of all, with numbers that go round, with none, with numbers of no register between, and mixed ones.
func series() [][]step {
	d := &draws{at: 13}
	list := [][]step{
		nil,
		{{3, 4}, {3, 0xfffffff8}},
		stepsOf(1, func(int) step { return step{14, 0xffffffff} }),
		stepsOf(300, func(i int) step { return step{i % 16, 0} }),
		stepsOf(500, func(i int) step { return step{i % 16, uint32(i) * 0x01234567} }),
		stepsOf(800, func(i int) step { return step{i%20 - 2, 0xfffffffc} }),
		stepsOf(4096, func(int) step { return step{7, 0x00100001} }),
	}
	for n := range 16 {
		list = append(list, stepsOf(300, func(i int) step { return step{n, numbers[i%len(numbers)]} }))
	}
	for range 40 {
		list = append(list, stepsOf(d.below(700), func(int) step { return step{d.register(), d.number()} }))
	}
	return list
}

// do steps as a series says, and answers how many were taken; those of no register are refused.
func do(t *testing.T, f *regs.File, list []step) int {
	t.Helper()
	taken := 0
	for _, s := range list {
		want := api.ErrArg
		if 0 <= s.n && s.n <= 15 {
			want = api.OK
			taken++
		}
		if e := f.Step(s.n, s.d); e != want {
			t.Fatalf("Step(%d, %x): %d, want %d", s.n, s.d, e, want)
		}
	}
	return taken
}

// told is all that can be asked of a File, but for its steps.
type told struct {
	s            api.State
	kernel, user uint32
}

func tell(f *regs.File) told { return told{f.Save(full()), f.Stack(kernel), f.Stack(user)} }

// starts: Files behind New, behind Load, and behind New and some Sets.
func starts() []*regs.File {
	d := &draws{at: 17}
	list := []*regs.File{regs.New()}
	for range 4 {
		f := regs.New()
		f.Load(d.state())
		list = append(list, f)
	}
	for _, status := range []uint32{0, 0x01400000, 0xffffffff} {
		list = append(list, loaded(status))
	}
	f := regs.New()
	for n := range 16 {
		f.Set(n, d.number(), 1<<(n%3))
	}
	return append(list, f)
}

// P7.2: behind steps alone Undo makes the registers what they were; the status and both ends, too.
func TestUndoRestores(t *testing.T) {
	for i, list := range series() {
		for k, f := range starts() {
			before := tell(f)
			steps(t, f, 0)
			steps(t, f, do(t, f, list))
			f.Undo()
			steps(t, f, 0)
			if now := tell(f); now != before {
				t.Fatalf("series %d, start %d: %x, want %x", i, k, now, before)
			}
		}
	}
}

// P7.2: the steps themselves change the registers alone: of the ends only that of who runs, by register 14.
func TestStepsLeaveTheRest(t *testing.T) {
	for i, list := range series() {
		for k, f := range starts() {
			want := tell(f)
			for _, s := range list {
				if 0 <= s.n && s.n <= 15 {
					want.s.R[s.n] += s.d
				}
			}
			if want.s.PSL&0x01000000 != 0 {
				want.user = want.s.R[14]
			} else {
				want.kernel = want.s.R[14]
			}
			do(t, f, list)
			if now := tell(f); now != want {
				t.Fatalf("series %d, start %d: %x, want %x", i, k, now, want)
			}
		}
	}
}

// P7.2: one series behind the other, each taken back by itself.
func TestUndoAgainAndAgain(t *testing.T) {
	f := loaded(0x01400000)
	before := tell(f)
	for i, list := range series() {
		do(t, f, list)
		f.Undo()
		if now := tell(f); now != before {
			t.Fatalf("series %d: %x, want %x", i, now, before)
		}
	}
}

// P7.2: steps that were forgotten aren't taken back, those behind are.
func TestUndoBehindForget(t *testing.T) {
	all := series()
	for i, list := range all {
		f := loaded(0)
		do(t, f, all[len(all)-1-i])
		before := tell(f)
		f.Forget()
		steps(t, f, 0)
		if now := tell(f); now != before {
			t.Fatalf("Forget: %x, want %x", now, before)
		}
		steps(t, f, do(t, f, list))
		f.Undo()
		if now := tell(f); now != before {
			t.Fatalf("series %d: %x, want %x", i, now, before)
		}
	}
}
