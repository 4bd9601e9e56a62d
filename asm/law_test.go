package asm_test

import (
	"bytes"
	"math/rand"
	"strings"
	"sync"
	"testing"

	"camshaft/api"
	"camshaft/asm"
)

// P12.2: what Text says is assembled to bytes of which Text says the same, and which are no more.
func TestTextIsAssembled(t *testing.T) {
	count := 0
	seen := map[string]bool{}
	instructions(func(b []byte) {
		x := tell(b)
		if x.e != api.OK || seen[x.text] {
			return
		}
		seen[x.text] = true
		count++
		p := assemble(x.text)
		if p.e != api.OK || p.line != 0 || len(p.b) > x.n {
			t.Fatalf("% x: %s, assembled: %s", b, x, p)
		}
		sameTold(t, bare(p.b), told{x.text, len(p.b), api.OK})
		sameTold(t, join(p.b, b), told{x.text, len(p.b), api.OK})
		sameProgram(t, "\t"+x.text+" ; "+x.text, p)
	})
	if count < 50000 {
		t.Errorf("only %d texts", count)
	}
}

// P12.2: of one text all bytes that say it are assembled to the same, which are the fewest.
func TestFewest(t *testing.T) {
	for text, list := range map[string][]string{
		"TSTL #5": {"d5 05", "d5 8f 05 00 00 00"}, "TSTB #63": {"95 3f", "95 8f 3f"}, "TSTL 5(R1)": {"d5 a1 05", "d5 c1 05 00", "d5 e1 05 00 00 00"}, "TSTL @-129(R1)[R2]": {"d5 42 d1 7f ff", "d5 42 f1 7f ff ff ff"}, "TSTW #64": {"b5 8f 40 00"}, "TSTL @#5": {"d5 9f 05 00 00 00"}, "BRW 5": {"31 05 00"},
	} {
		for _, b := range list {
			sameTold(t, raw(b), told{text, len(raw(b)), api.OK})
		}
		good(t, text, list[0])
	}
}

// P12.2: a program that is told instruction by instruction is assembled to one that is told the same.
func TestProgramAgain(t *testing.T) {
	b := assemble(lines("start: MOVL #5, -(SP)", "ADDB3 (R1)+, @-4(FP)[R2], R7", "loop: SOBGTR R3, loop", "BRW end", "MOVAB @#end, R0", "CMPW #300, 200(PC)", "INSV #1, R2, #3, @(R4)+[AP]", "end: HALT")).b
	var list []string
	for at := 0; at < len(b); {
		x := tell(b[at:])
		if x.e != api.OK {
			t.Fatalf("% x: %s", b[at:], x)
		}
		list = append(list, x.text)
		at += x.n
	}
	want := []string{"MOVL #5, -(R14)", "ADDB3 (R1)+, @-4(R13)[R2], R7", "SOBGTR R3, -3", "BRW 20", "MOVAB @#35, R0", "CMPW #300, 200(R15)", "INSV #1, R2, #3, @(R4)+[R12]", "HALT"}
	if len(b) == 0 || strings.Join(list, "\n") != strings.Join(want, "\n") {
		t.Errorf("told %q, want %q", list, want)
	}
	sameProgram(t, lines(list...), whole(b))
}

// mixed: programs of pieces, with each of their labels once.
func mixed(seed int64, many int, f func(list []string)) {
	random := rand.New(rand.NewSource(seed))
	for range many {
		var list []string
		for range 1 + random.Intn(10) {
			list = append(list, pieces[random.Intn(len(pieces))])
		}
		f(closed(list, random))
	}
}

// P12.1: comments, and white signs at both ends, change nothing; lines of nothing change the number that is told alone.
func TestNothingMore(t *testing.T) {
	mixed(125, 3000, func(list []string) {
		want := assemble(lines(list...))
		var more, apart []string
		for i, line := range list {
			more = append(more, strings.Repeat(" \t\r", i%3)+line+[]string{" ", "\r", "\t;x: what", " ; ;"}[i%4])
			apart = append(apart, line, []string{"", " ; x: BRB what", "\t\r"}[i%3])
		}
		sameProgram(t, lines(more...), want)
		want.line = max(2*want.line-1, 0)
		sameProgram(t, lines(apart...), want)
		sameProgram(t, lines(apart...)+"\n\n;", want)
	})
}

// P12.1: other names for labels change nothing.
func TestOtherNames(t *testing.T) {
	names := map[string]string{"x": "_", "y": "R16", "z": strings.Repeat("z", 24), "w": "NOP"}
	mixed(126, 3000, func(list []string) {
		var other []string
		for _, line := range list {
			line, _, _ = strings.Cut(line, ";")
			for name, to := range names {
				if label, rest, is := strings.Cut(line, ":"); is && strings.TrimSpace(label) == name {
					line = to + ":" + rest
				}
				line = renamed(line, name, to)
			}
			other = append(other, line)
		}
		sameProgram(t, lines(other...), assemble(lines(list...)))
	})
}

// renamed: a line in which a label that is named as an operand has another name.
func renamed(line, name, to string) string {
	for _, ahead := range []string{"#", " "} {
		for _, behind := range []string{"[", ",", " ", ""} {
			if at := strings.Index(line, ahead+name+behind); at >= 0 && (behind != "" || strings.HasSuffix(line, ahead+name)) {
				if behind == "" {
					at = len(line) - len(ahead+name)
				}
				return line[:at] + ahead + to + line[at+len(ahead+name):]
			}
		}
	}
	return line
}

// P12.1: programs without labels behind one another are their bytes behind one another.
func TestBehindOneAnother(t *testing.T) {
	var plain []string
	for _, line := range pieces {
		if assemble(line).e == api.OK && !strings.Contains(line, ":") {
			plain = append(plain, line)
		}
	}
	if len(plain) < 15 {
		t.Fatalf("%q", plain)
	}
	for _, a := range plain {
		for _, b := range plain {
			sameProgram(t, a+"\n"+b, whole(join(assemble(a).b, assemble(b).b)))
		}
	}
}

// Rule 3: what is answered is new memory; bytes that are handed in stay as they are, and aren't kept.
func TestNewMemory(t *testing.T) {
	for _, text := range []string{"MOVL #5, -(SP)", "x: BRB x\n.space 20\nTSTL @#x", ".byte 1,2,3", ".long 1"} {
		first, _, _ := asm.Assemble(text)
		want := bytes.Clone(first)
		second, _, _ := asm.Assemble(text)
		all := first[:cap(first)]
		for i := range all {
			all[i] ^= 0xff
		}
		if !bytes.Equal(second, want) {
			t.Errorf("%q, asked ahead: % x, want % x", text, second, want)
		}
		sameProgram(t, text, whole(want))
	}
	b := raw("d0 05 7e ff 5f 4f")
	was := bytes.Clone(b)
	text, _, _ := asm.Text(b[:3])
	if !bytes.Equal(b, was) {
		t.Errorf("% x were changed: % x", was, b)
	}
	for i := range b {
		b[i] = 0x01
	}
	if text != "MOVL #5, -(R14)" {
		t.Errorf("told %q", text)
	}
}

// Rule 4: what is answered doesn't hang on what was asked ahead of it, a program's labels least of all.
func TestOrder(t *testing.T) {
	good(t, "x: NOP\ny: NOP", "01 01")
	bad(t, "BRB x", 1)
	bad(t, "NOP\nTSTL #y", 2)
	good(t, "x: BRB x", "11 fe")
	good(t, "NOP\nx: BRB x", "01 11 fe")
	mixed(127, 300, func(list []string) {
		text := lines(list...)
		want := assemble(text)
		for _, other := range []string{"x: .space 7\ny: TSTL @#x", "what", "BRB x", ""} {
			assemble(other)
			sameProgram(t, text, want)
		}
	})
}

// Rule 4: nor on what is asked at the same time.
func TestTogether(t *testing.T) {
	var group sync.WaitGroup
	for seed := range int64(8) {
		group.Go(func() {
			mixed(128+seed%2, 500, func(list []string) {
				text := lines(list...)
				if got, want := assemble(text), model(text); !got.same(want) {
					t.Errorf("%q: %s, want %s", text, got, want)
				}
			})
		})
	}
	group.Wait()
}

// All calls end, and none panics: mixed bytes as texts, and as instructions.
func TestMixedBytes(t *testing.T) {
	random := rand.New(rand.NewSource(129))
	for range 30000 {
		b := make([]byte, random.Intn(40))
		random.Read(b)
		assemble(string(b))
		x := tell(b)
		if want := modelText(b); x != want {
			t.Fatalf("% x: %s, want %s", b, x, want)
		}
		if x.e == api.OK {
			sameTold(t, assemble(x.text).b, told{x.text, len(assemble(x.text).b), api.OK})
		}
	}
}
