package isa_test

import (
	"fmt"
	"slices"
	"strconv"
	"strings"
	"testing"

	"camshaft/isa"
)

// The chapter's own words, of which the model makes its list, so that it shares neither numbers nor tables with the package.
const (
	classWords = "Halt, Nop, Rei, Bpt, Ret, Rsb, Bsb, Br, Bcc, Jsb, Jmp, One, Own, Two, Three, Tst, Pair, Cvt, Movz, Mova, Pusha, Pushl, Ash, Rot, Blb, Bb, Aob, Sob, Ext, Ins, Calls, Pushr, Popr, Movpsl, Bis, Bic, Chmk, Mtpr, Mfpr, Movc3, Movc5, Cmpc3, Cmpc5, Locc, Skpc"

	aluWords = "Mov, Not, Neg, Inc, Dec, Add, Sub, AddC, SubC, Mul, Div, Or, Bic, Xor, Bit, Cmp, Test, Clear"

	singles = `00 HALT Halt. 01 NOP Nop. 02 REI Rei. 03 BPT Bpt. 04 RET Ret. 05 RSB Rsb.
10 BSBB Bsb bb. 30 BSBW Bsb bw. 11 BRB Br bb. 31 BRW Br bw. 16 JSB Jsb ab. 17 JMP Jmp ab.
Class Bcc, bb: 12 BNEQ. 13 BEQL. 14 BGTR. 15 BLEQ. 18 BGEQ. 19 BLSS. 1A BGTRU. 1B BLEQU. 1C BVC. 1D BVS. 1E BCC. 1F BCS.
28 MOVC3 Movc3 rw ab ab. 29 CMPC3 Cmpc3 rw ab ab. 2C MOVC5 Movc5 rw ab rb rw ab. 2D CMPC5 Cmpc5 rw ab rb rw ab. 3A LOCC Locc rb rw ab. 3B SKPC Skpc rb rw ab.
Class Cvt: 32 CVTWL rw wl. 33 CVTWB rw wb. 98 CVTBL rb wl. 99 CVTBW rb ww. F6 CVTLB rl wb. F7 CVTLW rl ww. Class Movz: 3C MOVZWL rw wl. 9A MOVZBL rb wl. 9B MOVZBW rb ww.
78 ASHL Ash rb rl wl. 9C ROTL Rot rb rl wl.
Class Mova: 9E MOVAB ab wl. BE MOVAW aw wl. DE MOVAL al wl. Class Pusha: 9F PUSHAB ab. BF PUSHAW aw. DF PUSHAL al. DD PUSHL Pushl rl.
B8 BISPSW Bis rw. B9 BICPSW Bic rw. BA POPR Popr rw. BB PUSHR Pushr rw. BC CHMK Chmk rw. DA MTPR Mtpr rl rl. DB MFPR Mfpr rl wl. DC MOVPSL Movpsl wl.
D8 ADWC Two rl ml (layer 8's AddC). D9 SBWC Two rl ml (SubC).
E0 BBS Bb rl vb bb (1). E1 BBC Bb rl vb bb (0). E8 BLBS Blb rl bb (1). E9 BLBC Blb rl bb (0).
EE EXTV Ext rl rb vb wl (1). EF EXTZV Ext rl rb vb wl (0). F0 INSV Ins rl rl rb vb.
F2 AOBLSS Aob rl ml bb (0). F3 AOBLEQ Aob rl ml bb (1). F4 SOBGEQ Sob ml bb (1). F5 SOBGTR Sob ml bb (0). FB CALLS Calls rl ab.`

	families = "0 ADD2 (Add), 2 SUB2 (Sub), 4 MUL2 (Mul), 6 DIV2 (Div), 8 BIS2 (Or), A BIC2 (Bic), C XOR2 (Xor): class Two, rx mx; E MNEG (Neg), 10 MOV (Mov), 12 MCOM (Not): class One, rx wx; 11 CMP (Cmp), 13 BIT (Bit): class Pair, rx rx; 14 CLR (Clear): class Own, wx; 15 TST (Test): class Tst, rx; 16 INC (Inc), 17 DEC (Dec): class Own, mx"
)

// place: a word's number in a list that begins with 1; 0: it isn't there.
func place(list, word string) int { return slices.Index(strings.Split(list, ", "), word) + 1 }

// hex: the number that a text is, to the base 16.
func hex(text string) int {
	n, err := strconv.ParseUint(text, 16, 8)
	if err != nil {
		panic(err)
	}
	return int(n)
}

// reckoned: what is told in brackets, as a number.
func reckoned(text string) int {
	if n, err := strconv.Atoi(text); err == nil {
		return n
	}
	return place(aluWords, strings.TrimPrefix(text, "layer 8's "))
}

// brackets: a text ahead of its brackets, and what stands in them.
func brackets(text string) (ahead, within string) {
	ahead, within, _ = strings.Cut(text, " (")
	return ahead, strings.TrimSuffix(within, ")")
}

// single: the instructions of one of the chapter's lines; its classes hold till its end.
func single(line string) []row {
	var list []row
	var class, ops string
	for _, part := range strings.Split(strings.TrimSuffix(line, "."), ". ") {
		if head, rest, has := strings.Cut(part, ": "); has {
			class, ops, _ = strings.Cut(strings.TrimPrefix(head, "Class "), ", ")
			part = rest
		}
		text, within := brackets(part)
		words := strings.Fields(text)
		r := row{code: hex(words[0]), name: words[1], class: place(classWords, class), alu: reckoned(within), ops: ops}
		words = words[2:]
		if len(words) > 0 && place(classWords, words[0]) > 0 {
			r.class, words = place(classWords, words[0]), words[1:]
		}
		if len(words) > 0 {
			r.ops = strings.Join(words, " ")
		}
		list = append(list, r)
	}
	return list
}

// sized: an instruction of a family, with a size's letter, at the size's codes.
func sized(r row, size int) row {
	letter := "BWL"[size : size+1]
	stem := strings.TrimRight(r.name, "23")
	r.name = stem + letter + strings.TrimPrefix(r.name, stem)
	r.code += []int{0x80, 0xa0, 0xc0}[size]
	r.ops = strings.ReplaceAll(r.ops, "x", strings.ToLower(letter))
	return r
}

// family: the instructions of a size.
func family(size int) []row {
	var list []row
	for _, part := range strings.Split(families, "; ") {
		heads, tail, _ := strings.Cut(part, ": class ")
		class, ops, _ := strings.Cut(tail, ", ")
		for _, head := range strings.Split(heads, ", ") {
			text, within := brackets(head)
			code, name, _ := strings.Cut(text, " ")
			r := row{hex(code), name, place(classWords, class), reckoned(within), ops}
			list = append(list, sized(r, size))
			if class == "Two" {
				r = row{r.code + 1, strings.Replace(name, "2", "3", 1), place(classWords, "Three"), r.alu, "rx rx wx"}
				list = append(list, sized(r, size))
			}
		}
	}
	return list
}

// model: all instructions, by their codes.
func model() map[int]row {
	all := map[int]row{}
	for _, line := range strings.Split(singles, "\n") {
		for _, r := range single(line) {
			all[r.code] = r
		}
	}
	for size := range 3 {
		for _, r := range family(size) {
			all[r.code] = r
		}
	}
	return all
}

// P10.1: Of every code, and Find of every name, against the chapter's words.
func TestModel(t *testing.T) {
	all := model()
	if len(all) != 139 {
		t.Fatalf("the words tell %d instructions", len(all))
	}
	for code := range 0x100 {
		r, there := all[code]
		if !there {
			noCode(t, code)
			continue
		}
		x, ok := isa.Of(code)
		is(t, fmt.Sprintf("Of(%02X)", code), x, ok, r.opcode())
		x, ok = isa.Find(r.name)
		is(t, fmt.Sprintf("Find(%q)", r.name), x, ok, r.opcode())
	}
}

// P10.1: each of the 45 classes has an instruction, and no other number has; String holds of those that the chapter names.
func TestModelClasses(t *testing.T) {
	used := map[int]bool{}
	for _, x := range instructions() {
		used[x.Class] = true
	}
	for class := -1; class <= 50; class++ {
		if used[class] != (1 <= class && class <= 45) {
			t.Errorf("class %d: %v", class, used[class])
		}
	}
	for i, word := range strings.Split(classWords, ", ") {
		want := slices.Contains([]string{"Movc3", "Movc5", "Cmpc3", "Cmpc5", "Locc", "Skpc"}, word)
		if got := isa.String(i + 1); got != want {
			t.Errorf("String(%s): %v", word, got)
		}
	}
}
