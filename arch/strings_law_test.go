package arch_test

import (
	"bytes"
	"fmt"
	"math/rand"
	"testing"

	"camshaft/api"
)

// through runs an instruction at 400 up to its end, with interrupts between its parts by chance, and with handlers that make pages; it answers the world, and how many parts there were.
func through(d drawn, w *world, often int) (*world, int, error) {
	w.mem[handlers+0x17c] = 2
	r := memory(w.mem)
	m := machine(r, w.s)
	for parts := 0; parts < 1000; parts++ {
		if often > 0 && d.one(often) {
			if v, _ := m.Step(1 << 31); v != 0x17c {
				return nil, 0, fmt.Errorf("an interrupt was %x", v)
			}
			m.Step(0)
		}
		v, e := m.Step(0)
		s := m.State()
		switch {
		case v == api.VecInvalid:
			// The handler: the page is made, what was raised with it is taken away, and REI.
			va, _ := r.Get(s.R[14]+4, 4)
			x, _ := r.Get(table+va/512*4, 4)
			r.Put(table+va/512*4, x|1<<31, 4)
			s.R[14] += 8
			s.R[15] = handlers + 0x17c
			m.Load(s)
			m.Step(0)
		case v != 0 || e != api.OK:
			return nil, 0, fmt.Errorf("vector %x, error %d", v, e)
		case s.PSL>>27&1 == 0:
			return &world{s, all(r)}, parts, nil
		case s.R[15] != program:
			return nil, 0, fmt.Errorf("PC is %x within", s.R[15])
		}
	}
	return nil, 0, fmt.Errorf("it doesn't end")
}

// ends fails unless a string instruction, run with and without interrupts, and with pages that come as they are needed, comes to registers and codes, and to bytes from 2000 on.
func ends(t *testing.T, d drawn, text string, w *world, regs map[int]uint32, codes uint32, data []byte, parts int) {
	t.Helper()
	for _, often := range []int{0, 1, 3} {
		for _, paged := range []bool{false, true} {
			from := w.copy()
			if paged {
				from.say("map")
				for n := range 8 {
					if d.one(2) {
						from.say("gone" + hex(uint32(0x10+n)))
					}
				}
			}
			got, n, err := through(d, from, often)
			if err != nil {
				t.Errorf("%s: %s", text, err)
				return
			}
			is := w.copy().s
			is.Tables = got.s.Tables
			is.R[15] = program + uint32(len(assembled(text)))
			is.PSL = codes
			for r, x := range regs {
				is.R[r] = x
			}
			if got.s != is {
				t.Errorf("%s, interrupts %d: %+v, want %+v", text, often, got.s, is)
			}
			if b := got.mem[0x2000:0x3000]; !bytes.Equal(b, data) {
				t.Errorf("%s, interrupts %d: other bytes", text, often)
			}
			if often == 0 && !paged && n != parts {
				t.Errorf("%s: %d parts, want %d", text, n, parts)
			}
		}
	}
}

// chunks: how many parts n bytes are.
func chunks(n int) int { return max(1, (n+7)/8) }

// P13.3: bytes are moved as though the source had been copied first.
func TestMovesAreCopies(t *testing.T) {
	d := drawn{rand.New(rand.NewSource(1331))}
	var lengths []int
	for n := range 35 {
		lengths = append(lengths, n)
	}
	for _, n := range append(lengths, 63, 64, 65, 100, 255, 256, 600) {
		for _, by := range []int{0, 1, -1, 3, -3, 7, -7, 8, -8, 9, -9, 15, 16, -16, 17, n, -n, n - 1, 1 - n, n + 1, d.Intn(2*n+1) - n} {
			from := 0x2000 + 700 + d.Intn(300)
			to := from + by
			text := fmt.Sprintf("MOVC3 #%d, @#%d, @#%d", n, from, to)
			w := plain(assembled(text))
			data := bytes.Clone(w.mem[0x2000:0x3000])
			copy(data[to-0x2000:to-0x2000+n], bytes.Clone(data[from-0x2000:from-0x2000+n]))
			ends(t, d, text, w, map[int]uint32{0: 0, 1: uint32(from + n), 2: 0, 3: uint32(to + n), 4: 0, 5: 0}, 4, data, chunks(n))
		}
	}
}

// compared: the codes of two numbers of a size, held against one another.
func compared(a, b uint32, size int) uint32 {
	codes := uint32(0)
	if sign(a, size) < sign(b, size) {
		codes |= 8
	}
	if cut(a, size) == cut(b, size) {
		codes |= 4
	}
	if cut(a, size) < cut(b, size) {
		codes |= 1
	}
	return codes
}

// P13.3: of two lengths, the rest is filled.
func TestMovesAreFilled(t *testing.T) {
	d := drawn{rand.New(rand.NewSource(1332))}
	lengths := []int{0, 1, 5, 7, 8, 9, 16, 23, 40}
	for _, n := range lengths {
		for _, room := range lengths {
			for _, by := range []int{0, 1, -1, 8, -8, 20, -20, 60, -60} {
				from := 0x2000 + 400 + d.Intn(300)
				to := from + by
				fill := byte(d.Intn(256))
				text := fmt.Sprintf("MOVC5 #%d, @#%d, #%d, #%d, @#%d", n, from, int8(fill), room, to)
				w := plain(assembled(text))
				data := bytes.Clone(w.mem[0x2000:0x3000])
				moved := min(n, room)
				copy(data[to-0x2000:to-0x2000+moved], bytes.Clone(data[from-0x2000:from-0x2000+moved]))
				for i := moved; i < room; i++ {
					data[to-0x2000+i] = fill
				}
				parts := (moved+7)/8 + (room-moved+7)/8
				ends(t, d, text, w, map[int]uint32{0: uint32(n - moved), 1: uint32(from + moved), 2: 0, 3: uint32(to + room), 4: 0, 5: 0}, compared(uint32(n), uint32(room), 2), data, max(1, parts))
			}
		}
	}
}

// padded: the byte of a text, or, behind its end, another one.
func padded(b []byte, i int, fill byte) byte {
	if i < len(b) {
		return b[i]
	}
	return fill
}

// P13.3: the first two bytes that part are found; char stands for those that one has less.
func TestComparesFindTheFirstTwo(t *testing.T) {
	d := drawn{rand.New(rand.NewSource(1333))}
	lengths := []int{0, 1, 2, 7, 8, 9, 15, 16, 17, 30}
	for _, n := range lengths {
		for _, other := range lengths {
			for range 8 {
				char := byte(0x41)
				a := bytes.Repeat([]byte{char}, n)
				b := bytes.Repeat([]byte{char}, other)
				for _, x := range [][]byte{a, b} {
					if len(x) > 0 && !d.one(3) {
						x[d.Intn(len(x))] = byte(d.Intn(256))
					}
				}
				compareRow(t, d, a, b, char)
			}
		}
	}
}

func compareRow(t *testing.T, d drawn, a, b []byte, char byte) {
	t.Helper()
	from, to := 0x2000+500+d.Intn(60), 0x2000+1000+d.Intn(60)
	text := fmt.Sprintf("CMPC5 #%d, @#%d, #%d, #%d, @#%d", len(a), from, char, len(b), to)
	if len(a) == len(b) {
		text = fmt.Sprintf("CMPC3 #%d, @#%d, @#%d", len(a), from, to)
	}
	w := plain(assembled(text))
	copy(w.mem[from:], a)
	copy(w.mem[to:], b)
	longest := max(len(a), len(b))
	i := 0
	for i < longest && padded(a, i, char) == padded(b, i, char) {
		i++
	}
	ahead, behind := min(i, len(a)), min(i, len(b))
	codes := compared(uint32(padded(a, i, char)), uint32(padded(b, i, char)), 1)
	regs := map[int]uint32{0: uint32(len(a) - ahead), 1: uint32(from + ahead), 2: uint32(len(b) - behind), 3: uint32(to + behind)}
	ends(t, d, text, w, regs, codes, bytes.Clone(w.mem[0x2000:0x3000]), chunksCompared(i, len(a), len(b)))
}

// chunksCompared: how many parts there are, if the first two that part are those of a number. Of what is the shorter one's all goes with its chunk.
func chunksCompared(i, n, other int) int {
	parts := 0
	for {
		parts++
		k := max(min(n, 8), min(other, 8))
		if i < k || n <= 8 && other <= 8 {
			return parts
		}
		i -= k
		n -= min(n, 8)
		other -= min(other, 8)
	}
}

// P13.3: the first byte that is char, or isn't, is found.
func TestSearchesFindTheFirst(t *testing.T) {
	d := drawn{rand.New(rand.NewSource(1334))}
	for _, name := range []string{"LOCC", "SKPC"} {
		for n := range 34 {
			for first := 0; first <= n; first++ {
				from := 0x2000 + 500 + d.Intn(60)
				text := fmt.Sprintf("%s #0x20, #%d, @#%d", name, n, from)
				w := plain(assembled(text))
				for i := range n + 4 {
					// The ones behind the end don't count.
					if found := i == first || i > first && d.one(2) || i >= n; found == (name == "LOCC") {
						w.mem[from+i] = 0x20
					} else {
						w.mem[from+i] = 0x21
					}
				}
				codes := uint32(0)
				if first == n {
					codes = 4
				}
				parts := chunks(n)
				if first < n {
					parts = first/8 + 1
				}
				ends(t, d, text, w, map[int]uint32{0: uint32(n - first), 1: uint32(from + first)}, codes, bytes.Clone(w.mem[0x2000:0x3000]), parts)
			}
		}
	}
}

// Each boundary within is an interrupt's, whose frame has FPD and the instruction's first byte.
func TestInterruptsWithin(t *testing.T) {
	w := plain(assembled("MOVC3 #100, @#0x2000, @#0x2003"))
	for left := 100; left > 4; left -= 8 {
		w.step(0)
		if w.s.R[0]&0xffff != uint32(left) || w.s.PSL != 1<<27 || w.s.R[15] != program {
			t.Fatalf("%d: %+v", left, w.s)
		}
		is := w.copy()
		is.raise(0x14c, 19)
		back := w.copy()
		if v, e := w.step(1 << 19); v != 0x14c || e != api.OK {
			t.Fatalf("%x, error %d", v, e)
		}
		if s := told(w, is); s != "" {
			t.Errorf("%d:%s", left, s)
		}
		w = back
	}
}
