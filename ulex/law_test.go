package ulex_test

import (
	"math/rand"
	"slices"
	"strings"
	"sync"
	"testing"

	"camshaft/api"
	"camshaft/ulex"
)

// joined: what is answered of a text, by its lines, each lexed alone.
func joined(text string) answer {
	var all []ulex.Token
	for i, line := range strings.Split(text, "\n") {
		a := lexed(line)
		if a.e != api.OK {
			return answer{at: [2]int{a.at[0] + i, a.at[1]}, e: a.e}
		}
		for _, x := range a.list {
			x.Line += i
			all = append(all, x)
		}
	}
	return answer{list: all}
}

// P15.2: of drawn texts, with faults and without.
func TestLinesHangOnNothing(t *testing.T) {
	r := rand.New(rand.NewSource(154))
	faults, many := 0, 0
	for range 30000 {
		text := drawn(r)
		a := lexed(text)
		if want := joined(text); !same(a, want) {
			t.Fatalf("Lex(%q): %+v, by its lines %+v", text, a, want)
		}
		if a.at[0] > 1 {
			faults++
		}
		if len(a.list) > 0 && a.list[len(a.list)-1].Line > 2 {
			many++
		}
	}
	if faults < 2000 || many < 2000 {
		t.Errorf("%d with faults behind the first line, %d of more than two lines", faults, many)
	}
}

// P15.2: a line says the same whatever stands ahead of it and behind it.
func TestLinesBetweenOthers(t *testing.T) {
	r := rand.New(rand.NewSource(155))
	for range 10000 {
		line := strings.ReplaceAll(drawn(r), "\n", " ")
		ahead := lexed(drawn(r))
		behind := drawn(r)
		if ahead.e != api.OK {
			continue
		}
		lines := ahead.list[len(ahead.list)-1].Line
		alone := lexed(line)
		a := lexed(strings.Repeat("x ; é\n", lines) + line + "\n" + behind)
		if alone.e != api.OK {
			if a.e != alone.e || a.at != [2]int{1 + lines, alone.at[1]} || len(a.list) != 0 {
				t.Fatalf("%q behind %d lines: %+v, alone %+v", line, lines, a, alone)
			}
			continue
		}
		if a.e != api.OK {
			continue
		}
		var got []ulex.Token
		for _, x := range a.list {
			if x.Line == 1+lines {
				x.Line = 1
				got = append(got, x)
			}
		}
		if !slices.Equal(got, alone.list) {
			t.Fatalf("%q behind %d lines: %+v, alone %+v", line, lines, got, alone.list)
		}
	}
}

// P15.1: each token's text stands where it says; between tokens stands what comes to nothing.
func TestTokensAreTheirBytes(t *testing.T) {
	r := rand.New(rand.NewSource(156))
	for range 20000 {
		text := drawn(r)
		list, _, e := ulex.Lex(text)
		if e != api.OK {
			continue
		}
		lines := strings.Split(text, "\n")
		line, at := 1, 0
		for _, x := range list {
			between := lines[line-1][at : x.Col-1]
			if code, _, _ := strings.Cut(between, ";"); x.Line != line || strings.Trim(code, whites) != "" || x.Kind != ulex.End && code != between {
				t.Fatalf("%q: %q ahead of %+v", text, between, x)
			}
			at = x.Col - 1 + len(x.Text)
			if lines[line-1][x.Col-1:at] != x.Text {
				t.Fatalf("%q: %+v", text, x)
			}
			if x.Kind == ulex.End {
				if at != len(lines[line-1]) {
					t.Fatalf("%q: %+v", text, x)
				}
				line, at = line+1, 0
			}
		}
		if line != len(lines)+1 {
			t.Fatalf("%q: %d ends, %d lines", text, line-1, len(lines))
		}
	}
}

// Rule 3: an answer's list is new memory.
func TestListIsNew(t *testing.T) {
	text := "a: b = 12 + 0x3 ; c\n.d\n"
	one, _, _ := ulex.Lex(text)
	want := slices.Clone(one)
	clear(one)
	two, _, _ := ulex.Lex(text)
	if !slices.Equal(two, want) {
		t.Errorf("%+v, want %+v", two, want)
	}
	_ = append(two[:1], ulex.Token{Text: "x"})
	if three, _, _ := ulex.Lex(text); !slices.Equal(three, want) {
		t.Errorf("%+v, want %+v", three, want)
	}
}

// Rule 4: no call hangs on the calls ahead of it, nor on those at the same time.
func TestAtTheSameTime(t *testing.T) {
	var all sync.WaitGroup
	for seed := range 8 {
		all.Go(func() {
			r := rand.New(rand.NewSource(int64(seed)))
			for range 2000 {
				text := drawn(r)
				if a, want := lexed(text), model(text); !same(a, want) {
					t.Errorf("Lex(%q): %+v, want %+v", text, a, want)
					return
				}
			}
		})
	}
	all.Wait()
}
