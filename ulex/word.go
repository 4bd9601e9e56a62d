package ulex

import (
	"strconv"
	"strings"
)

// word: the letters and digits with which a text begins.
func word(text string) string {
	for i, c := range text {
		if !isLetter(c) && !isDigit(c) {
			return text[:i]
		}
	}
	return text
}

func isLetter(c rune) bool {
	return c >= 'a' && c <= 'z' || c >= 'A' && c <= 'Z' || c == '_'
}

func isDigit(c rune) bool {
	return c >= '0' && c <= '9'
}

// value: the number of 31 bits that a word's digits say; false: they say none.
func value(word string) (int, bool) {
	digits, base := word, 10
	if behind, is := strings.CutPrefix(word, "0x"); is {
		digits, base = behind, 16
	}
	x, err := strconv.ParseUint(digits, base, 31)
	return int(x), err == nil
}
