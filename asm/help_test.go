package asm_test

import (
	"bytes"
	"encoding/hex"
	"fmt"
	"strings"
	"testing"

	"camshaft/api"
	"camshaft/asm"
)

// program is what Assemble answers; told: what Text does.
type program struct {
	b    []byte
	line int
	e    api.Errno
}

type told struct {
	text string
	n    int
	e    api.Errno
}

func assemble(text string) program {
	b, line, e := asm.Assemble(text)
	return program{b, line, e}
}

func tell(b []byte) told {
	text, n, e := asm.Text(b)
	return told{text, n, e}
}

// whole: a program of bytes; fault: none, for a line's sake.
func whole(b []byte) program { return program{b, 0, api.OK} }

func fault(line int) program { return program{nil, line, api.ErrLine} }

// The errors of Text, and Assemble's of a text that is too long.
var (
	cut     = told{"", 0, api.ErrLong}
	noForm  = told{"", 0, api.ErrForm}
	tooLong = program{nil, 0, api.ErrLong}
)

func (p program) same(q program) bool {
	return p.e == q.e && p.line == q.line && bytes.Equal(p.b, q.b)
}

func (p program) String() string {
	return fmt.Sprintf("%s, line %d, error %d", short(hex.EncodeToString(p.b)), p.line, p.e)
}

func (x told) String() string { return fmt.Sprintf("%q, %d bytes, error %d", x.text, x.n, x.e) }

// short: a text, or the beginning of a long one.
func short(text string) string {
	if len(text) > 300 {
		return text[:300] + ".."
	}
	return text
}

// raw: the bytes that a text is, to the base 16, with blanks.
func raw(text string) []byte {
	b, err := hex.DecodeString(strings.ReplaceAll(text, " ", ""))
	if err != nil {
		panic(err)
	}
	return b
}

// bare: bytes without spare room, so that one that is looked at beyond them isn't there.
func bare(b []byte) []byte { return append(make([]byte, 0, len(b)), b...)[:len(b):len(b)] }

// join: bytes behind one another, in new memory.
func join(parts ...[]byte) []byte { return bytes.Join(parts, nil) }

// lines: a text of lines.
func lines(list ...string) string { return strings.Join(list, "\n") }

// sameProgram fails unless Assemble answers what is wanted; good: those bytes; bad: that a line can't be.
func sameProgram(t *testing.T, text string, want program) {
	t.Helper()
	if got := assemble(text); !got.same(want) {
		t.Errorf("%q: %s, want %s", short(text), got, want)
	}
}

func good(t *testing.T, text, want string) {
	t.Helper()
	sameProgram(t, text, whole(raw(want)))
}

func bad(t *testing.T, text string, line int) {
	t.Helper()
	sameProgram(t, text, fault(line))
}

// badNow fails unless a line can't be in itself: it is told ahead of one behind it that is nothing; badLater: unless it is told just where no such line is there.
func badNow(t *testing.T, text string) {
	t.Helper()
	bad(t, text, 1)
	bad(t, text+"\nwhat", 1)
	bad(t, "BRB nowhere\n"+text, 2)
}

func badLater(t *testing.T, text string) {
	t.Helper()
	bad(t, text, 1)
	bad(t, text+"\nwhat", 2)
	bad(t, text+"\nNOP\nBRB nowhere", 1)
}

// sameTold fails unless Text answers what is wanted.
func sameTold(t *testing.T, b []byte, want told) {
	t.Helper()
	if got := tell(b); got != want {
		t.Errorf("% x: %s, want %s", b, got, want)
	}
}

// spaces: lines that make so many noughts.
func spaces(n int) string {
	return strings.Repeat(".space 4096\n", n/4096) + fmt.Sprintf(".space %d\n", n%4096)
}

// spaceLines: how many lines these are.
func spaceLines(n int) int { return n/4096 + 1 }
