package uword

import "camshaft/api"

// fields: a word's, from its lowest bits on; they are 64 bits together.
var fields = [...]Field{
	{"alu", 5},
	{"a", 6},
	{"b", 6},
	{"d", 6},
	{"lit", 8},
	{"size", 2},
	{"cc", 2},
	{"mem", 4},
	{"seq", 3},
	{"cond", 5},
	{"to", 11},
	{"misc", 6},
}

// parts: where a word keeps what its fields hold, in the fields' order.
func parts(w *api.Word) [len(fields)]*int {
	return [...]*int{
		&w.Alu, &w.A, &w.B, &w.D,
		&w.Lit,
		&w.Size, &w.CC, &w.Mem,
		&w.Seq, &w.Cond, &w.To,
		&w.Misc,
	}
}

// index: the one among the fields that has the name; -1: none has.
func index(name string) int {
	for i, f := range fields {
		if f.Name == name {
			return i
		}
	}
	return -1
}

// fits: whether a number is from 0 to less than 2 to the power of bits, which are fewer than its own.
func fits[T int | uint64](x T, bits int) bool {
	return x >= 0 && x>>bits == 0
}
