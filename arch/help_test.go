package arch_test

import (
	"bytes"
	base16 "encoding/hex"
	"fmt"
	"slices"
	"strconv"
	"strings"
	"testing"

	"camshaft/api"
	"camshaft/arch"
	"camshaft/asm"
	"camshaft/ram"
)

// Where what stands, unless a row says otherwise.
const (
	size     = 0x4000 // 32 pages
	vectors  = 0x200
	program  = 0x400
	handlers = 0x1000 // that of a vector is as far behind
	table    = 0x3000 // of pages that lie where their addresses say
)

// world is a state and a memory.
type world struct {
	s   api.State
	mem []byte
}

// plain: a kernel's, with a program; all registers, and most bytes side by side, are other ones.
func plain(code []byte) *world {
	w := &world{mem: make([]byte, size)}
	for i := range w.mem {
		w.mem[i] = byte(i*7 + i>>8*13 + 5)
	}
	for v := 0; v < 0x180; v += 4 {
		w.long(vectors+v, uint32(handlers+v))
	}
	copy(w.mem[program:], code)
	for n := range w.s.R {
		w.s.R[n] = 0xa0b0c000 + uint32(n)*0x11
	}
	w.s.R[api.SP], w.s.R[api.PC] = 0x800, program
	w.s.KSP, w.s.USP, w.s.SCBB = 0xc00, 0xa00, vectors
	return w
}

// copy: another one that is the same.
func (w *world) copy() *world { return &world{w.s, slices.Clone(w.mem)} }

// long puts four bytes into the memory; of: the number in four.
func (w *world) long(at int, x uint32) {
	for i := range 4 {
		w.mem[at+i] = byte(x >> (8 * i))
	}
}

func (w *world) of(at int) uint32 {
	return uint32(w.mem[at]) | uint32(w.mem[at+1])<<8 | uint32(w.mem[at+2])<<16 | uint32(w.mem[at+3])<<24
}

// assembled: a program's bytes.
func assembled(text string) []byte {
	b, line, e := asm.Assemble(".space " + strconv.Itoa(program) + "\n" + text)
	if e != api.OK {
		panic(fmt.Sprintf("line %d of %q", line, text))
	}
	return b[program:]
}

// number: one to the base 16.
func number(text string) uint32 {
	x, err := strconv.ParseUint(text, 16, 32)
	if err != nil {
		panic(err)
	}
	return uint32(x)
}

// place: where the number of a name is; nil: there is none of that name.
func (w *world) place(name string) *uint32 {
	t := &w.s.Tables
	named := map[string]*uint32{
		"AP": &w.s.R[12], "FP": &w.s.R[13], "SP": &w.s.R[14], "PC": &w.s.R[15], "PSL": &w.s.PSL,
		"KSP": &w.s.KSP, "USP": &w.s.USP, "SCBB": &w.s.SCBB,
		"P0BR": &t.P0BR, "P0LR": &t.P0LR, "SBR": &t.SBR, "SLR": &t.SLR, "MAPEN": &t.MAPEN,
	}
	for n := range 12 {
		named["R"+strconv.Itoa(n)] = &w.s.R[n]
	}
	return named[name]
}

// say changes a world as words say: a name and a number; a place and bytes; "map": each page lies where its address says; of a page that it is gone, or whose it is, or that it is marked; "user": the user runs.
func (w *world) say(words ...string) {
	for _, word := range words {
		name, value, is := strings.Cut(word, "=")
		switch {
		case is && name == "HALT":
			w.s.Halt = int(number(value))
		case is && name[0] == '@':
			b, err := base16.DecodeString(value)
			if err != nil {
				panic(err)
			}
			copy(w.mem[number(name[1:]):], b)
		case is:
			*w.place(name) = number(value)
		case word == "user":
			w.s.PSL = 0x01400000
		case word == "map":
			w.s.Tables = api.Tables{P0BR: table, P0LR: 32, MAPEN: 1}
			for n := range 32 {
				w.long(table+4*n, 0x98000000+uint32(n))
			}
		default:
			w.page(word)
		}
	}
}

// page changes the entry of a page, as a word says, where the table stands by now.
func (w *world) page(word string) {
	kinds := []struct {
		name       string
		clear, set uint32
	}{
		{"gone", 1 << 31, 0}, {"mark", 0, 1 << 26},
		{"nobodys", 3 << 27, 0}, {"kernels", 3 << 27, 1 << 27}, {"read", 3 << 27, 2 << 27},
	}
	for _, k := range kinds {
		if n, is := strings.CutPrefix(word, k.name); is {
			at := int(w.s.Tables.P0BR + 4*number(n))
			w.long(at, w.of(at)&^k.clear|k.set)
			return
		}
	}
	panic(word)
}

// raise: a handler is gone to, by hand: the frame is on the kernel's stack, whose pages are marked.
func (w *world) raise(vector, level uint32, with ...uint32) {
	user := w.s.PSL&0x01000000 != 0
	end := w.s.R[14]
	if user {
		w.s.USP, end = end, w.s.KSP
	}
	for _, x := range append([]uint32{w.s.PSL, w.s.R[15]}, with...) {
		end -= 4
		w.long(int(end), x)
		if w.s.Tables.MAPEN != 0 {
			w.page("mark" + hex(end/512))
			w.page("mark" + hex((end+3)/512))
		}
	}
	w.s.R[14], w.s.R[15], w.s.PSL = end, handlers+vector, level<<16
	if user {
		w.s.PSL |= 0x00400000
	}
}

// raised: what words behind "fault", "trap" or "line" say: the vector, or the level, and what is pushed with it.
func (w *world) raised(kind string, words []string) int {
	var x []uint32
	for _, word := range words {
		x = append(x, number(word))
	}
	if kind == "line" {
		w.raise(0x100+4*x[0], x[0])
		return int(0x100 + 4*x[0])
	}
	w.raise(x[0], w.s.PSL>>16&31, x[1:]...)
	return int(x[0])
}

// memory: one of these bytes; machine: one in this state, over a memory.
func memory(b []byte) *ram.Ram {
	r := ram.New(len(b))
	r.Load(0, b...)
	return r
}

func machine(r *ram.Ram, s api.State) *arch.Machine {
	m := arch.New(r)
	m.Load(s)
	return m
}

// all: a memory's bytes.
func all(r *ram.Ram) []byte {
	b, _ := r.Bytes(0, r.Size())
	return b
}

// told: a state as a text, with what isn't as in another one marked.
func told(got, want *world) string {
	if got.s == want.s && bytes.Equal(got.mem, want.mem) {
		return ""
	}
	var b strings.Builder
	names := strings.Fields("R0 R1 R2 R3 R4 R5 R6 R7 R8 R9 R10 R11 AP FP SP PC PSL KSP USP SCBB P0BR P0LR SBR SLR MAPEN")
	for _, name := range names {
		if x, y := *got.place(name), *want.place(name); x != y {
			fmt.Fprintf(&b, " %s %x, want %x;", name, x, y)
		}
	}
	if got.s.Halt != want.s.Halt {
		fmt.Fprintf(&b, " Halt %d, want %d;", got.s.Halt, want.s.Halt)
	}
	for i, c := range got.mem {
		if c != want.mem[i] {
			fmt.Fprintf(&b, " @%x %x, want %x;", i, c, want.mem[i])
		}
		if b.Len() > 400 {
			return b.String() + " .."
		}
	}
	return b.String()
}

// step does one step of a world.
func (w *world) step(lines uint32) (int, api.Errno) {
	r := memory(w.mem)
	m := machine(r, w.s)
	v, e := m.Step(lines)
	w.s, w.mem = m.State(), all(r)
	return v, e
}

// hex: a number to the base 16.
func hex(x uint32) string { return strconv.FormatUint(uint64(x), 16) }

// row fails unless a step of one instruction, at 400, makes of what is ahead what is wanted: PC is behind it, and then what the words say. Behind "fault", "trap" or "line" stands by which vector, or level, a handler is gone to, and with what; ahead of a fault's PC isn't behind the instruction. Behind "vector" stands by which one it was gone to, where the words say themselves what comes of that. All else is as it was.
func row(t *testing.T, text, ahead, want string) {
	t.Helper()
	code := assembled(text)
	rowOf(t, code, 0, text, ahead, want)
}

// rowOf: of these bytes, with lines, and a name.
func rowOf(t *testing.T, code []byte, lines uint32, name, ahead, want string) {
	t.Helper()
	w := plain(code)
	w.say(strings.Fields(ahead)...)
	is := w.copy()
	vector := is.wanted(strings.Fields(want), uint32(len(code)))
	v, e := w.step(lines)
	if v != vector || e != api.OK {
		t.Errorf("%s; %s: vector %x, error %d, want %x", name, ahead, v, e, vector)
	}
	if s := told(w, is); s != "" {
		t.Errorf("%s; %s:%s", name, ahead, s)
	}
}

// wanted changes a world as is wanted of an instruction of so many bytes; it answers the vector.
func (w *world) wanted(words []string, length uint32) int {
	kinds := []string{"fault", "trap", "line", "vector"}
	i := slices.IndexFunc(words, func(word string) bool { return slices.Contains(kinds, word) })
	if i < 0 {
		w.s.R[15] += length
		w.say(words...)
		return 0
	}
	if words[i] == "trap" {
		w.s.R[15] += length
	}
	w.say(words[:i]...)
	if words[i] == "vector" {
		return int(number(words[i+1]))
	}
	return w.raised(words[i], words[i+1:])
}

// codes: those of all instructions, as they stand in the chapter of layer 10.
func codes() []int {
	list := []int{
		0x00, 0x01, 0x02, 0x03, 0x04, 0x05, 0x10, 0x30, 0x11, 0x31, 0x16, 0x17,
		0x12, 0x13, 0x14, 0x15, 0x18, 0x19, 0x1a, 0x1b, 0x1c, 0x1d, 0x1e, 0x1f,
		0x28, 0x29, 0x2c, 0x2d, 0x3a, 0x3b, 0x32, 0x33, 0x98, 0x99, 0xf6, 0xf7, 0x3c, 0x9a, 0x9b,
		0x78, 0x9c, 0x9e, 0xbe, 0xde, 0x9f, 0xbf, 0xdf, 0xdd, 0xb8, 0xb9, 0xba, 0xbb, 0xbc, 0xda, 0xdb, 0xdc,
		0xd8, 0xd9, 0xe0, 0xe1, 0xe8, 0xe9, 0xee, 0xef, 0xf0, 0xf2, 0xf3, 0xf4, 0xf5, 0xfb,
	}
	for _, first := range []int{0x80, 0xa0, 0xc0} {
		for _, n := range []int{0, 1, 2, 3, 4, 5, 6, 7, 8, 9, 10, 11, 12, 13, 14, 16, 17, 18, 19, 20, 21, 22, 23} {
			list = append(list, first+n)
		}
	}
	return list
}
