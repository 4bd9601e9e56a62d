package ulex_test

import (
	"math/big"
	"math/rand"
	"strings"
	"testing"

	"camshaft/api"
	"camshaft/ulex"
)

// reader goes through a text byte by byte, and keeps the word that is being read.
type reader struct {
	list      []ulex.Token
	word      []byte
	line, col int
	comment   bool
	fault     [2]int
}

// close ends the word that was being read; false: it is a fault.
func (r *reader) close() bool {
	if len(r.word) == 0 {
		return true
	}
	t := ulex.Token{Kind: ulex.Name, Text: string(r.word), Line: r.line, Col: r.col - len(r.word)}
	ok := len(r.word) <= 24
	if among(r.word[0], digits) {
		t.Kind = ulex.Number
		t.Num, ok = reckoned(r.word)
	}
	if !ok {
		r.fault = [2]int{t.Line, t.Col}
		return false
	}
	r.list = append(r.list, t)
	r.word = nil
	return true
}

// byte takes the next one in; false: there is a fault.
func (r *reader) byte(c byte) bool {
	switch {
	case c == '\n':
		if !r.close() {
			return false
		}
		r.list = append(r.list, ulex.Token{Line: r.line, Col: r.col})
		r.line, r.col, r.comment = r.line+1, 0, false
	case r.comment:
	case among(c, letters+digits):
		r.word = append(r.word, c)
	case !r.close():
		return false
	case c == ';':
		r.comment = true
	case among(c, signs):
		r.list = append(r.list, ulex.Token{Kind: ulex.Sign, Text: string([]byte{c}), Line: r.line, Col: r.col})
	case !among(c, whites):
		r.fault = [2]int{r.line, r.col}
		return false
	}
	r.col++
	return true
}

// reckoned: the number that a word's digits say, digit by digit; false: they say none.
func reckoned(word []byte) (int, bool) {
	base, at := int64(10), 0
	if len(word) > 1 && word[0] == '0' && word[1] == 'x' {
		base, at = 16, 2
	}
	if at == len(word) {
		return 0, false
	}
	x := new(big.Int)
	for ; at < len(word); at++ {
		d := int64(strings.IndexByte("0123456789abcdef", word[at]))
		if word[at] >= 'A' && word[at] <= 'F' {
			d = int64(word[at]-'A') + 10
		}
		if d < 0 || d >= base {
			return 0, false
		}
		x.Mul(x, big.NewInt(base)).Add(x, big.NewInt(d))
	}
	return int(x.Int64()), x.BitLen() <= 31
}

// model: what Lex answers.
func model(text string) answer {
	if len(text) > 131072 {
		return answer{e: api.ErrLong}
	}
	r := reader{line: 1, col: 1}
	for i := range len(text) {
		if !r.byte(text[i]) {
			return answer{at: r.fault, e: api.ErrForm}
		}
	}
	if !r.byte('\n') {
		return answer{at: r.fault, e: api.ErrForm}
	}
	return answer{list: r.list}
}

// holds fails unless Lex answers what the model does.
func holds(t *testing.T, text string) answer {
	t.Helper()
	a := lexed(text)
	if want := model(text); !same(a, want) {
		t.Fatalf("Lex(%q): %+v, want %+v", short(text), a, want)
	}
	return a
}

// P15.1: all texts of at most five of some pieces, so that each stands beside each.
func TestShortTextsAreTheModel(t *testing.T) {
	pieces := []string{"a", "x", "_", "0", "9", "f", "=", " ", "\n", ";", "\x80", "é"}
	texts := []string{""}
	for range 5 {
		var more []string
		for _, text := range texts {
			for _, p := range pieces {
				holds(t, text+p)
				more = append(more, text+p)
			}
		}
		texts = more
	}
}

// P15.1: any two bytes, alone, and behind what they may belong to.
func TestTwoBytesAreTheModel(t *testing.T) {
	for i := range 256 {
		for j := range 256 {
			two := string([]byte{byte(i), byte(j)})
			for _, ahead := range []string{"", "a", "0", "0x", ";", "é"} {
				holds(t, ahead+two)
			}
			holds(t, two+"a")
			holds(t, two+"1\n")
		}
	}
}

// P15.1: drawn texts.
func TestDrawnTextsAreTheModel(t *testing.T) {
	r := rand.New(rand.NewSource(15))
	kinds := [4]int{}
	faults, goods := 0, 0
	for range 60000 {
		a := holds(t, drawn(r))
		if a.e != api.OK {
			faults++
			continue
		}
		goods++
		for _, x := range a.list {
			kinds[x.Kind]++
		}
	}
	if faults < 10000 || goods < 10000 {
		t.Errorf("%d with faults, %d without", faults, goods)
	}
	for k, n := range kinds {
		if n < 10000 {
			t.Errorf("%d of kind %d", n, k)
		}
	}
}

// P15.1: drawn numbers about the greatest one, decimal and hexadecimal, with noughts ahead.
func TestDrawnNumbersAreTheModel(t *testing.T) {
	r := rand.New(rand.NewSource(151))
	faults, goods := 0, 0
	for range 30000 {
		x := big.NewInt(r.Int63n(1 << (1 + r.Intn(40))))
		switch r.Intn(4) {
		case 0:
			x = big.NewInt(1<<31 - 3 + r.Int63n(6))
		case 1:
			x.Lsh(x, uint(r.Intn(70)))
		}
		word := strings.Repeat("0", r.Intn(12)) + x.Text(10)
		if r.Intn(2) == 0 {
			word = "0x" + strings.Repeat("0", r.Intn(12)) + mixedLetters(r, x.Text(16))
		}
		if holds(t, word).e == api.OK {
			goods++
		} else {
			faults++
		}
		holds(t, word+"\n;\n=12 "+word+"+")
	}
	if faults < 2000 || goods < 2000 {
		t.Errorf("%d with faults, %d without", faults, goods)
	}
}

// mixedLetters: a word, some of whose letters are large.
func mixedLetters(r *rand.Rand, word string) string {
	b := []byte(word)
	for i, c := range b {
		if c >= 'a' && r.Intn(2) == 0 {
			b[i] = c - 'a' + 'A'
		}
	}
	return string(b)
}

// P15.1: drawn bytes, oftener than others such as stand in lines.
func TestDrawnBytesAreTheModel(t *testing.T) {
	r := rand.New(rand.NewSource(152))
	const often = letters + digits + "0123456789abcdefx" + signs + whites + "\n\n\n;;"
	for range 60000 {
		b := make([]byte, r.Intn(60))
		for i := range b {
			b[i] = often[r.Intn(len(often))]
			if r.Intn(100) == 0 {
				b[i] = byte(r.Intn(256))
			}
		}
		holds(t, string(b))
	}
}

// P15.1: texts of many lines, as long as they may be, and a little longer.
func TestLongTextsAreTheModel(t *testing.T) {
	r := rand.New(rand.NewSource(153))
	for _, bytes := range []int{1000, 60000, 131071, 131072, 131073} {
		var b strings.Builder
		for b.Len() < bytes {
			piece := goods()[r.Intn(len(goods()))]
			b.WriteString(piece + " ")
		}
		text := b.String()[:bytes]
		holds(t, text)
		at := r.Intn(bytes)
		holds(t, text[:at]+"\n#"+text[at:bytes-2])
	}
}
