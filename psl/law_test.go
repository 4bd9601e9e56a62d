package psl_test

import (
	"testing"

	"camshaft/psl"
)

// gains: whether somebody at now is more than at some earlier status.
func gains(t *testing.T, earlier, now uint32) bool {
	t.Helper()
	return has(earlier, 24) && !has(now, 24) || level(t, now) > level(t, earlier)
}

// chain goes from a status on by each return that is allowed, among count that are tried, and holds each status against all earlier ones.
func chain(t *testing.T, from uint32, count int, next func() uint32) int {
	t.Helper()
	past := []uint32{from}
	for range count {
		to := next()
		if !psl.Back(past[len(past)-1], to) {
			continue
		}
		for _, earlier := range past {
			if gains(t, earlier, to) {
				t.Fatalf("from %08x at last to %08x", earlier, to)
			}
		}
		past = append(past, to)
	}
	return len(past) - 1
}

// P6.2: chains of returns over many statuses, and numbers that can't be one, never gain.
func TestChainsNeverGain(t *testing.T) {
	good, odd := statuses(), numbers()
	drawn := uint64(1)
	draw := func(n int) int {
		drawn = drawn*6364136223846793005 + 1442695040888963407
		return int(drawn >> 33 % uint64(n))
	}
	next := func() uint32 {
		if draw(4) == 0 {
			return odd[draw(len(odd))]
		}
		return good[draw(len(good))]
	}
	steps := 0
	for _, from := range append(odd, good...) {
		steps += chain(t, from, 30, next)
	}
	if steps < 1000 {
		t.Errorf("only %d returns", steps)
	}
}

// P6.2: a chain down all levels to the user goes on for ever there, and never back.
func TestChainDown(t *testing.T) {
	at := uint32(31 << 16)
	for n := 31; n >= 0; n-- {
		to := uint32(n << 16)
		if !psl.Back(at, to) {
			t.Fatalf("Back(%08x, %08x)", at, to)
		}
		if n < 31 && psl.Back(to, at) {
			t.Fatalf("Back(%08x, %08x) gains", to, at)
		}
		at = to
	}
	user := uint32(psl.User | psl.Was)
	if !psl.Back(at, user) || !psl.Back(user, user|psl.FPD) {
		t.Error("the user isn't returned to")
	}
	for _, to := range append(statuses(), numbers()...) {
		if psl.Back(user, to) && (!has(to, 24) || level(t, to) != 0) {
			t.Errorf("the user gains %08x", to)
		}
	}
}

// P6.2: whatever can be come to by any number of returns is no gain, and can be come to at once.
func TestAllThatIsComeTo(t *testing.T) {
	list := ends()
	for _, from := range list {
		come, seen := []uint32{from}, map[uint32]bool{}
		for len(come) > 0 {
			at := come[0]
			come = come[1:]
			for _, to := range list {
				if seen[to] || !psl.Back(at, to) {
					continue
				}
				seen[to] = true
				come = append(come, to)
				if gains(t, from, to) || !psl.Back(from, to) {
					t.Fatalf("from %08x at last to %08x", from, to)
				}
			}
		}
	}
}

// P6.2: of all statuses, a return never gains.
func TestReturnsNeverGain(t *testing.T) {
	list := statuses()
	for _, from := range list {
		for _, to := range list {
			if !psl.Back(from, to) {
				continue
			}
			if from&psl.User != 0 && to&psl.User == 0 || to>>16&31 > from>>16&31 {
				t.Fatalf("from %08x to %08x", from, to)
			}
		}
	}
}

// A handler that returns to what it came from may do so, unless that is above its own level.
func TestHandlersReturn(t *testing.T) {
	for _, x := range statuses() {
		for n := range 32 {
			if back := psl.Back(psl.Enter(x, n), x); back != (n >= level(t, x)) {
				t.Errorf("%08x, handled at %d: %v", x, n, back)
			}
			if !psl.Good(psl.Enter(x, n)) {
				t.Errorf("Enter(%08x, %d) can't be a status", x, n)
			}
		}
	}
}

// P6.2: a branch of an even code and the next one are never both taken; of those that there are, one is.
func TestNeverBoth(t *testing.T) {
	for code := -0x200; code < 0x400; code += 2 {
		_, is := taken[code]
		for _, f := range allCodes() {
			even, odd := psl.Branch(code, f), psl.Branch(code+1, f)
			if even && odd {
				t.Errorf("%x and %x with %v: both", code, code+1, f)
			}
			if is && !even && !odd {
				t.Errorf("%x and %x with %v: neither", code, code+1, f)
			}
		}
	}
}
