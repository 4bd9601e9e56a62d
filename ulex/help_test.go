package ulex_test

import (
	"math/rand"
	"slices"
	"strings"
	"testing"

	"camshaft/api"
	"camshaft/ulex"
)

func end(line, col int) ulex.Token {
	return ulex.Token{Kind: ulex.End, Line: line, Col: col}
}

func name(text string, line, col int) ulex.Token {
	return ulex.Token{Kind: ulex.Name, Text: text, Line: line, Col: col}
}

func number(text string, num, line, col int) ulex.Token {
	return ulex.Token{Kind: ulex.Number, Text: text, Num: num, Line: line, Col: col}
}

func sign(text string, line, col int) ulex.Token {
	return ulex.Token{Kind: ulex.Sign, Text: text, Line: line, Col: col}
}

// answer is all that Lex answers.
type answer struct {
	list []ulex.Token
	at   [2]int
	e    api.Errno
}

func lexed(text string) answer {
	list, at, e := ulex.Lex(text)
	return answer{list, at, e}
}

func same(a, b answer) bool {
	return slices.Equal(a.list, b.list) && a.at == b.at && a.e == b.e
}

// short: a text as it is told, cut off.
func short(text string) string {
	if len(text) > 300 {
		return text[:300] + ".."
	}
	return text
}

// lexes fails unless a text's tokens are those.
func lexes(t *testing.T, text string, want ...ulex.Token) {
	t.Helper()
	if a := lexed(text); !same(a, answer{list: want}) {
		t.Errorf("Lex(%q): %+v, want %+v", short(text), a, want)
	}
}

// faulty fails unless a text's first fault is there.
func faulty(t *testing.T, text string, line, col int) {
	t.Helper()
	if a := lexed(text); !same(a, answer{at: [2]int{line, col}, e: api.ErrForm}) {
		t.Errorf("Lex(%q): %+v, want ErrForm at %d, %d", short(text), a, line, col)
	}
}

// long fails unless a text has too many bytes.
func long(t *testing.T, text string) {
	t.Helper()
	if a := lexed(text); !same(a, answer{e: api.ErrLong}) {
		t.Errorf("Lex of %d bytes: %d tokens, %v, %d, want ErrLong", len(text), len(a.list), a.at, a.e)
	}
}

// letters and digits: those of names and numbers.
const (
	letters = "abcdefghijklmnopqrstuvwxyzABCDEFGHIJKLMNOPQRSTUVWXYZ_"
	digits  = "0123456789"
	signs   = ":=.+-"
	whites  = " \t\r"
)

func among(c byte, bytes string) bool {
	return strings.IndexByte(bytes, c) >= 0
}

// goods: pieces that stand in lines.
func goods() []string {
	return []string{
		"a", "alu", "A_1", "_", "x0", "lit", "abcdefghijklmnopqrstuvwx", "ABCDEFGHIJKLMNOPQRSTUV_9", "é;",
		"0", "7", "12", "00", "0x1F", "0xa", "0x7fffffff", "0X", "2147483647", "000000000000000000000000000009", "0x00000000000000000001",
		":", "=", ".", "+", "-", " ", "  ", "\t", "\r", ";", "; a line's rest", ";#\xff",
		"\n", "\n", "\n\n", " \n", "\r\n",
	}
}

// bads: pieces that are faults, wherever they stand in a line.
func bads() []string {
	return []string{
		"#", "é", "\xc3", "\xff", "\x00", "\v", "\f", "\x7f", "\u00a0", "ａ", "٣", "ſ", "'", "\"", ",", "(", ")", "/", "*", "@", "[", "`", "{", "<", ">", "?", "$", "%", "\\", "~", "|", "&", "^", "!", "]", "}",
	}
}

// drawn: a text of good pieces, now and then of a bad one, and now and then with a byte that was put in.
func drawn(r *rand.Rand) string {
	var b strings.Builder
	good, bad := goods(), bads()
	odds := 10 + r.Intn(200)
	for range r.Intn(40) {
		if r.Intn(odds) == 0 {
			b.WriteString(bad[r.Intn(len(bad))])
		} else {
			b.WriteString(good[r.Intn(len(good))])
		}
		if r.Intn(2) == 0 {
			b.WriteByte(' ')
		}
	}
	text := b.String()
	if r.Intn(8) == 0 {
		at := r.Intn(len(text) + 1)
		text = text[:at] + string([]byte{byte(r.Intn(256))}) + text[at:]
	}
	return text
}
