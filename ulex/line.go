package ulex

import (
	"strings"

	"camshaft/api"
)

// lexed: the tokens with those of a line behind them, the last one its end; false: it has a fault, the first of which is behind that many bytes.
func lexed(all []Token, line string, number int) ([]Token, int, bool) {
	at := 0
	for at < len(line) {
		t, bytes := first(line[at:])
		if bytes == 0 {
			return nil, at, false
		}
		if t.Kind != End {
			t.Line, t.Col = number, at+1
			all = append(all, t)
		}
		at += bytes
	}
	return append(all, Token{Kind: End, Line: number, Col: at + 1}), 0, true
}

// first: the token at a line's, or its rest's, first byte, and how many bytes are taken in; of kind End: they come to nothing; no bytes: a fault.
func first(rest string) (Token, int) {
	c := rest[0]
	switch {
	case c == ';':
		return Token{}, len(rest)
	case c == ' ' || c == '\t' || c == '\r':
		return Token{}, 1
	case isLetter(rune(c)):
		return name(word(rest))
	case isDigit(rune(c)):
		return number(word(rest))
	case strings.IndexByte(":=.+-", c) >= 0:
		return Token{Kind: Sign, Text: rest[:1]}, 1
	}
	return Token{}, 0
}

// name: the name that a word is, and its bytes; no bytes: it is too long.
func name(word string) (Token, int) {
	if len(word) > api.MaxLabel {
		return Token{}, 0
	}
	return Token{Kind: Name, Text: word}, len(word)
}

// number: the number that a word is, and its bytes; no bytes: it is none.
func number(word string) (Token, int) {
	x, ok := value(word)
	if !ok {
		return Token{}, 0
	}
	return Token{Kind: Number, Text: word, Num: x}, len(word)
}
