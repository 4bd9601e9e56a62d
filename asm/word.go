package asm

import (
	"strconv"
	"strings"

	"camshaft/api"
)

// registers is how many there are.
const registers = 16

// number: the one that a text says, modulo 2^32; false: it is none.
func number(text string) (uint32, bool) {
	text, minus := strings.CutPrefix(text, "-")
	text, hexadecimal := strings.CutPrefix(text, "0x")
	digits, most := "0123456789", uint64(1<<32-1)
	if hexadecimal {
		digits += "abcdef"
	}
	if minus {
		most = 1 << 31
	}
	n := uint64(0)
	for i := range len(text) {
		digit := strings.IndexByte(digits, text[i])
		if digit < 0 {
			return 0, false
		}
		n = n*uint64(len(digits)) + uint64(digit)
		// Asked at each digit, so that no text is so long that it wraps round.
		if n > most {
			return 0, false
		}
	}
	if minus {
		n = -n
	}
	return uint32(n), text != ""
}

// isName: whether a text is a name, that of a register too.
func isName(text string) bool {
	for i := range len(text) {
		if c := text[i]; !isLetter(c) && (i == 0 || c < '0' || c > '9') {
			return false
		}
	}
	return 0 < len(text) && len(text) <= api.MaxLabel
}

// isLetter: whether a name may begin so.
func isLetter(c byte) bool {
	return 'a' <= c && c <= 'z' || 'A' <= c && c <= 'Z' || c == '_'
}

// register: the number of the one that a text names; false: none.
func register(text string) (int, bool) {
	switch text {
	case "AP":
		return api.AP, true
	case "FP":
		return api.FP, true
	case "SP":
		return api.SP, true
	case "PC":
		return api.PC, true
	}
	for reg := range registers {
		if text == named(reg) {
			return reg, true
		}
	}
	return 0, false
}

// named: a register's name by its number.
func named(reg int) string { return "R" + strconv.Itoa(reg) }
