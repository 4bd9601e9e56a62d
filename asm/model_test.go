package asm_test

import (
	"math/big"
	"math/rand"
	"regexp"
	"strings"
	"testing"

	"camshaft/api"
	"camshaft/asm"
	"camshaft/isa"
)

// The model reads a text by patterns, twice: with 0 for labels, and with their places. It shares with the package the list of instructions alone.

// What stands in texts, as patterns.
const (
	regForm  = `(R[0-9]|R1[0-5]|AP|FP|SP|PC)`
	numForm  = `(-?(?:0x[0-9a-f]+|[0-9]+))`
	nameForm = `([a-zA-Z_][a-zA-Z0-9_]{0,23})`
	white    = " \t\r"
)

// form is a way of an operand: its pattern, its mode, and whether a register can be 15 there; what the pattern's groups are is told by its letters: r a register, n a number, l a label.
type form struct {
	pattern *regexp.Regexp
	groups  string
	mode    byte
	pc      bool
	access  string
	index   bool
}

func way(pattern, groups string, mode byte, pc bool, access string, index bool) form {
	return form{regexp.MustCompile(`^` + strings.NewReplacer("REG", regForm, "NUM", numForm, "NAME", nameForm).Replace(pattern) + `$`), groups, mode, pc, access, index}
}

// forms: all ways but those of displacements; of a number the mode is that of one byte.
var forms = []form{
	way(`REG`, "r", 0x50, false, "rwmv", false),
	way(`\(REG\)`, "r", 0x60, false, "rwmav", true),
	way(`-\(REG\)`, "r", 0x70, false, "rwmav", true),
	way(`\(REG\)\+`, "r", 0x80, false, "rwmav", true),
	way(`@\(REG\)\+`, "r", 0x90, false, "rwmav", true),
	way(`NUM\(REG\)`, "nr", 0xa0, true, "rwmav", true),
	way(`@NUM\(REG\)`, "nr", 0xb0, true, "rwmav", true),
	way(`#NUM`, "n", 0x8f, true, "r", false),
	way(`#NAME`, "l", 0x8f, true, "r", false),
	way(`@#NUM`, "n", 0x9f, true, "rwmav", true),
	way(`@#NAME`, "l", 0x9f, true, "rwmav", true),
}

var (
	lineForm    = regexp.MustCompile(`(?s)^(?:([^:]*):)?[ \t\r]*(.*)$`)
	indexForm   = regexp.MustCompile(`(?s)^(.*)\[` + regForm + `\]$`)
	numOnly     = regexp.MustCompile(`^` + numForm + `$`)
	nameOnly    = regexp.MustCompile(`^` + nameForm + `$`)
	regOnly     = regexp.MustCompile(`^` + regForm + `$`)
	spaceForm   = regexp.MustCompile(`^\.space [ \t\r]*` + numForm + `$`)
	numbersForm = regexp.MustCompile(`^\.(byte|word|long) ([^;]*)$`)
)

// regOf: the number of a register that is one.
func regOf(name string) byte {
	for i, list := range [][]string{{"R0"}, {"R1"}, {"R2"}, {"R3"}, {"R4"}, {"R5"}, {"R6"}, {"R7"}, {"R8"}, {"R9"}, {"R10"}, {"R11"}, {"R12", "AP"}, {"R13", "FP"}, {"R14", "SP"}, {"R15", "PC"}} {
		for _, other := range list {
			if name == other {
				return byte(i)
			}
		}
	}
	panic(name)
}

// worth: the number that a text is, as one with a sign of 32 bits.
func worth(text string) (int64, bool) {
	if !numOnly.MatchString(text) {
		return 0, false
	}
	base := 10
	if strings.Contains(text, "0x") {
		text, base = strings.Replace(text, "0x", "", 1), 16
	}
	n, _ := new(big.Int).SetString(text, base)
	limit := big.NewInt(1 << 32)
	if n.Cmp(limit) >= 0 || text[0] == '-' && n.Cmp(big.NewInt(-1<<31)) < 0 {
		return 0, false
	}
	m := new(big.Int).Mod(n, limit).Int64()
	if m >= 1<<31 {
		m -= 1 << 32
	}
	return m, true
}

// fits: whether a number with a sign has room in so many bytes.
func fits(n int64, size int) bool { return -1<<(8*size-1) <= n && n < 1<<(8*size-1) }

// bytesOf: the lowest bytes of a number, the lowest first.
func bytesOf(n int64, size int) []byte {
	return []byte{byte(n), byte(n >> 8), byte(n >> 16), byte(n >> 24)}[:size]
}

// reader is the model at work: with places, or, ahead of that, without.
type reader struct {
	b      []byte
	places map[string]int // nil: none are known as yet
	found  map[string]int
}

// label: the place of a label; 0, as long as none are known.
func (r *reader) label(name string) (int64, bool) {
	if r.places == nil {
		return 0, true
	}
	n, ok := r.places[name]
	return int64(n), ok
}

// branch adds a displacement.
func (r *reader) branch(text string, size int) bool {
	n, ok := worth(text)
	if !ok {
		if !nameOnly.MatchString(text) {
			return false
		}
		if n, ok = r.label(text); !ok {
			return false
		}
		if r.places != nil {
			n -= int64(len(r.b) + size)
		}
	}
	r.b = append(r.b, bytesOf(n, size)...)
	return fits(n, size)
}

// operand adds one.
func (r *reader) operand(text string, o api.Operand) bool {
	if o.Access == 'b' {
		return r.branch(text, o.Size)
	}
	var index []byte
	if m := indexForm.FindStringSubmatch(text); m != nil {
		text, index = m[1], []byte{0x40 + regOf(m[2])}
		if index[0] == 0x4f {
			return false
		}
	}
	for _, f := range forms {
		m := f.pattern.FindStringSubmatch(text)
		if m != nil {
			r.b = append(r.b, index...)
			return strings.Contains(f.access, string(rune(o.Access))) && (f.index || index == nil) && r.put(f, m[1:], o.Size)
		}
	}
	return false
}

// put adds an operand of a way, without its index.
func (r *reader) put(f form, groups []string, size int) bool {
	mode, n, ok := f.mode, int64(0), true
	for i, kind := range f.groups {
		switch kind {
		case 'r':
			mode |= regOf(groups[i])
			ok = ok && (f.pc || mode&15 != 15)
		case 'n':
			n, ok = worth(groups[i])
		case 'l':
			n, ok = r.label(groups[i])
		}
	}
	switch {
	case f.groups == "r":
		r.b = append(r.b, mode)
		return ok
	case f.groups == "n" && mode == 0x8f && 0 <= n && n < 64:
		r.b = append(r.b, byte(n))
		return ok
	case mode == 0x9f && f.groups != "nr":
		size = 4
	case f.groups == "nr":
		for size = 1; !fits(n, size); size *= 2 {
			mode += 0x20
		}
	}
	r.b = append(append(r.b, mode), bytesOf(n, size)...)
	return ok && fits(n, size)
}

// line adds a line; false: it isn't as told.
func (r *reader) line(text string) bool {
	text, _, _ = strings.Cut(text, ";")
	text = strings.Trim(text, white)
	m := lineForm.FindStringSubmatch(text)
	if strings.Contains(text, ":") {
		if !nameOnly.MatchString(m[1]) || regOnly.MatchString(m[1]) {
			return false
		}
		if _, twice := r.found[m[1]]; twice {
			return false
		}
		r.found[m[1]] = len(r.b)
	}
	text = m[2]
	if m := spaceForm.FindStringSubmatch(text); m != nil {
		n, ok := worth(m[1])
		if !ok || n < 0 || n > 4096 {
			return false
		}
		r.b = append(r.b, make([]byte, n)...)
		return true
	}
	if m := numbersForm.FindStringSubmatch(text); m != nil {
		return r.list(m[2], map[string]int{"byte": 1, "word": 2, "long": 4}[m[1]])
	}
	return text == "" || r.instruction(text)
}

// list adds numbers.
func (r *reader) list(text string, size int) bool {
	for _, part := range strings.Split(text, ",") {
		n, ok := worth(strings.Trim(part, white))
		if !ok {
			return false
		}
		r.b = append(r.b, bytesOf(n, size)...)
	}
	return true
}

// byName: the instructions by their names.
var byName = func() map[string]api.Opcode {
	names := map[string]api.Opcode{}
	for code := range 256 {
		if i, ok := isa.Of(code); ok {
			names[i.Name] = i
		}
	}
	return names
}()

// instruction adds one.
func (r *reader) instruction(text string) bool {
	words := strings.SplitN(text, " ", 2)
	i, ok := byName[words[0]]
	if !ok || len(i.Ops) == 0 && len(words) > 1 || len(i.Ops) > 0 && len(words) == 1 {
		return false
	}
	r.b = append(r.b, byte(i.Code))
	if len(i.Ops) == 0 {
		return true
	}
	parts := strings.Split(words[1], ",")
	if len(parts) != len(i.Ops) {
		return false
	}
	for n, o := range i.Ops {
		if !r.operand(strings.Trim(parts[n], white), o) {
			return false
		}
	}
	return true
}

// model: what Assemble is to answer.
func model(text string) program {
	if len(text) > 65536 {
		return tooLong
	}
	list := strings.Split(text, "\n")
	first := reader{found: map[string]int{}}
	for i, line := range list {
		if !first.line(line) || len(first.b) > 65536 {
			return fault(i + 1)
		}
	}
	second := reader{places: first.found, found: map[string]int{}}
	for i, line := range list {
		if !second.line(line) {
			return fault(i + 1)
		}
	}
	return whole(second.b)
}

// asModel fails unless Assemble answers what the model does; it answers whether there was no error.
func asModel(t *testing.T, text string) bool {
	t.Helper()
	got, want := assemble(text), model(text)
	if !got.same(want) {
		t.Fatalf("%q: %s, want %s", short(text), got, want)
	}
	return want.e == api.OK
}

// uses: for each access and size an instruction that has such an operand, with other operands ahead and behind it; the operand goes where the ? is.
var uses = []string{
	"TSTB ?", "TSTW ?", "TSTL ?", "MOVB R1, ?", "MOVW (R1)+, ?", "MOVL #5, ?", "ADDB2 #64, ?", "ADDW2 -(R3), ?", "ADDL2 3(R5), ?",
	"MOVAB ?, R1", "PUSHAW ?", "MOVAL ?, (R2)[R3]", "BBS #3, ?, 0", "INSV R1, #2, #3, ?", "BRB ?", "BRW ?", "SOBGTR R1, ?", "MOVC5 ?, (R1), R2, R3, (R4)", "LOCC #1, ?, @#5", "CALLS #0, ?",
}

// numbers: texts of numbers at the edges of what fits, of what they may be, and beyond.
var numbers = []string{
	"0", "-0", "1", "-1", "5", "63", "64", "127", "128", "-128", "-129", "255", "256", "32767", "32768", "-32768", "-32769", "65535", "65536", "2147483647", "2147483648", "4294967295", "4294967296", "-2147483648", "-2147483649",
	"0x0", "0x3f", "0x40", "0xff", "0xffffff80", "0xffffffff", "0x100000000", "-0x80000000", "-0x80000001", "0007", "0x", "-", "", "0xA", "1a", "x", "--1", "+1",
}

// operandTexts: all ways of an operand, with all kinds of registers, numbers and labels, and such as are none.
func operandTexts() []string {
	registers := []string{"R0", "R1", "R9", "R10", "R14", "R15", "R16", "R00", "AP", "FP", "SP", "PC", "r1", "R", "x", "5", ""}
	names := []string{"x", "y", "nowhere", "R1", "PC", "R16", "x1", "_", strings.Repeat("x", 24), strings.Repeat("x", 25), "x-1", "(R1)"}
	var list []string
	for _, reg := range registers {
		list = append(list, reg, "("+reg+")", "-("+reg+")", "("+reg+")+", "@("+reg+")+", "@("+reg+")", "@-("+reg+")", "@"+reg, "-("+reg+")+", "("+reg, reg+")")
		for _, n := range []string{"5", "-200", "40000", "-", "x", "0x10", "5 "} {
			list = append(list, n+"("+reg+")", "@"+n+"("+reg+")", n+"("+reg+")+", "@"+n+"("+reg+")+")
		}
	}
	for _, n := range append(numbers, names...) {
		list = append(list, n, "#"+n, "@#"+n, "@"+n, "# "+n, "#@"+n, n+"(R3)", "@"+n+"(R3)", n+"(PC)")
	}
	for _, text := range list {
		for _, index := range []string{"R2", "SP", "PC", "R16", "x", ""} {
			list = append(list, text+"["+index+"]")
		}
		list = append(list, text+" [R2]", text+"[R2", text+"[R2][R3]")
	}
	return list
}

// P12.1: every operand text of every access and size, with labels ahead and behind.
func TestModelOperands(t *testing.T) {
	count := 0
	for _, use := range uses {
		for _, text := range operandTexts() {
			line := strings.ReplaceAll(use, "?", text)
			programs := []string{"x: NOP\n" + line + "\ny:", line, "_: .space 100\n" + line + "\n.space 100\nx: NOP\ny:", ".space 200\nx: " + line + "\nR16:\nwhat"}
			if !strings.Contains(text, "#") && !strings.HasPrefix(use, "BR") {
				programs = programs[:1] // no label can be there
			}
			for _, whole := range programs {
				if asModel(t, whole) {
					count++
				}
			}
		}
	}
	if count < 10000 {
		t.Errorf("only %d were as told", count)
	}
}

// P12.1: every instruction with operands of every way, and with operands too few and too many.
func TestModelInstructions(t *testing.T) {
	texts := []string{"R1", "PC", "(R2)", "-(R3)", "(R4)+", "@(R5)+", "6(R7)", "@-8(R9)", "@#10", "#5", "#64", "#70000", "#x", "@#x", "x", "5", "1000", "(R1)[R2]", "R1[R2]", ""}
	for name := range byName {
		for _, a := range texts {
			for _, b := range texts {
				for _, tail := range []string{"", ", R3", ", x", ", R3, (R4)", ", R3, x", ", R2, R3, (R4)"} {
					asModel(t, "x: "+name+" "+a+", "+b+tail)
				}
			}
			asModel(t, "x: "+name+" "+a)
		}
		asModel(t, name)
		asModel(t, name+";")
		asModel(t, " "+name+" \nwhat")
	}
}

// signs: those of which short texts are made.
const signs = "R1(#@-+)[]x:;, 5\t"

// P12.1: all short texts as operands, as displacements, as numbers, as lines.
func TestModelShort(t *testing.T) {
	var all func(text string, more int)
	all = func(text string, more int) {
		for _, head := range []string{"x: TSTL ", "x: BRB ", ".word ", ""} {
			asModel(t, head+text)
		}
		if more > 0 {
			for i := range len(signs) {
				all(text+signs[i:i+1], more-1)
			}
		}
	}
	all("", 3)
	for _, text := range []string{"R1", "(R1)", "-(R1)", "(R1)+", "@(R1)+", "5(R1)", "@5(R1)", "#5", "@#5", "#x", "@#x", "(R1)[R1]", "@#x[R1]", "@5(R1)[R15]"} {
		for i := range len(text) + 1 {
			for k := range len(signs) {
				asModel(t, "x: TSTL "+text[:i]+signs[k:k+1]+text[i:])
				asModel(t, "x: TSTL "+text[:i]+signs[k:k+1]+text[min(i+1, len(text)):])
			}
			asModel(t, "x: TSTL "+text[:i]+text[min(i+1, len(text)):])
		}
	}
}

// P12.1: all short texts as numbers, and mixed longer ones near the greatest.
func TestModelNumbers(t *testing.T) {
	const digits = "-0x19afAFg_ "
	var all func(text string, more int)
	all = func(text string, more int) {
		asModel(t, ".long "+text)
		if more > 0 {
			for i := range len(digits) {
				all(text+digits[i:i+1], more-1)
			}
		}
	}
	all("", 4)
	random := rand.New(rand.NewSource(121))
	for range 20000 {
		text := []string{"", "-"}[random.Intn(2)] + []string{"", "0x", "00", "0x00"}[random.Intn(4)]
		text += []string{"429496729", "214748364", "ffffffff", "7fffffff", "8000000", "1844674407370955161", ""}[random.Intn(7)]
		for range random.Intn(3) {
			text += string("0123456789abcdef"[random.Intn(16)])
		}
		asModel(t, ".long "+text)
		asModel(t, "TSTL "+text+"(R1)")
		asModel(t, "BRB "+text)
	}
}

// pieces: lines of which programs are made.
var pieces = []string{
	"", ";", " ; x: what", "NOP", "HALT", "RSB ; over", "x:", "y: NOP", "z: .byte 1,2,3", "w: .space 100", "x: BRB x", "y: BRW z", "BRB x", "BRB y", "BRW w", "BNEQ z", "BSBB w", "SOBGTR R1, x", "AOBLEQ #100, (R3)+, y",
	"TSTB #x", "TSTW #y", "TSTL #z", "MOVL #w, -(SP)", "MOVAB @#x, R1", "MOVAL @#y[R2], @#z", "MOVL #5, 300(R2)", "ADDL3 (R1)+, (R1)+, (R2)", "CMPB #-5, @4(AP)", "EXTZV #3, #4, (R1)[R2], R5",
	".byte -1, 300", ".word 1 , 2", ".long 0x12345678", ".space 0", ".space 40", ".space 77", ".space 150", ".space 4096", "\tMOVB\t R1, R2", "\tMOVB \tR1,\tR2\r",
}

// faults: lines that are none.
var faults = []string{"what", "x", "BRB 200", "TSTB #128", "MOVL #5, #6", "TSTL", "NOP R1", "R1: NOP", "1x:", ".space 4097", ".byte", ".byte 1,", "BRB R1", "TSTL #PC", "TSTL (PC)+", "x: y: NOP"}

// P12.1: mixed programs, most of them as told, some with a line that is none.
func TestModelPrograms(t *testing.T) {
	random := rand.New(rand.NewSource(122))
	count := 0
	for range 60000 {
		var list []string
		for range 1 + random.Intn(14) {
			list = append(list, pieces[random.Intn(len(pieces))])
			if random.Intn(30) == 0 {
				list = append(list, faults[random.Intn(len(faults))])
			}
		}
		if random.Intn(2) == 0 {
			list = closed(list, random)
		}
		if asModel(t, lines(list...)) {
			count++
		}
	}
	if count < 5000 {
		t.Errorf("only %d were as told", count)
	}
}

// closed: lines with each of the four labels once.
func closed(list []string, random *rand.Rand) []string {
	var out []string
	for _, line := range list {
		if _, rest, is := strings.Cut(line, ":"); is && !strings.HasPrefix(line, " ;") {
			line = rest
		}
		out = append(out, line)
	}
	for _, label := range []string{"x:", "y:", "z: ", "w:\t"} {
		at := random.Intn(len(out))
		if !strings.Contains(out[at], ":") {
			out[at] = label + out[at]
		} else {
			out = append(out, label)
		}
	}
	return out
}

// P12.1: programs of which some signs are changed, left out, or put in.
func TestModelChanged(t *testing.T) {
	random := rand.New(rand.NewSource(123))
	const other = " \t\r\n;:,.#@()[]+-0123456789abcdefxyzwRAPFSC_LBWXg\x00\x80"
	for range 60000 {
		var list []string
		for range 1 + random.Intn(6) {
			list = append(list, pieces[random.Intn(len(pieces))])
		}
		text := []byte(lines(closed(list, random)...))
		for range 1 + random.Intn(3) {
			at := random.Intn(len(text) + 1)
			sign := other[random.Intn(len(other))]
			switch kind := random.Intn(3); {
			case kind == 0 || at == len(text):
				text = append(text[:at], append([]byte{sign}, text[at:]...)...)
			case kind == 1:
				text[at] = sign
			default:
				text = append(text[:at], text[at+1:]...)
			}
		}
		asModel(t, string(text))
	}
}

// P12.1: programs near as many bytes as they can have.
func TestModelLong(t *testing.T) {
	random := rand.New(rand.NewSource(124))
	for range 300 {
		list := []string{"x: NOP"}
		for range 15 {
			list = append(list, ".space 4096")
		}
		list = append(list, ".space 4000")
		for range 40 {
			list = append(list, pieces[19+random.Intn(14)])
		}
		at := random.Intn(len(list))
		list = append(list[:at:at], append([]string{"y: z: w:"}, list[at:]...)...)
		if random.Intn(4) > 0 {
			list[at] = "y:\nz:\nw:"
		}
		asModel(t, lines(list...))
	}
	for n := asm.MaxBytes - 3; n <= asm.MaxBytes+3; n++ {
		for _, head := range []string{"", "NOP\n", "what\n", "NOP\n.space 4096\n", "x: BRB y\n"} {
			asModel(t, head+strings.Repeat("\n", n-len(head)))
			asModel(t, head+";"+strings.Repeat("x", n-len(head)-1))
		}
	}
}
