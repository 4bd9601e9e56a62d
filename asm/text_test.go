package asm_test

import (
	"strconv"
	"strings"
	"testing"

	"camshaft/api"
	"camshaft/isa"
)

// P12.1, Text: by hand, and against a model that writes operands by their first bytes.

func TestTextByHand(t *testing.T) {
	for _, r := range []row{
		{"MOVL #5, -(R14)", "d0 05 7e"},
		{"HALT", "00"}, {"NOP", "01"}, {"RSB", "05"}, {"BRB 0", "11 00"}, {"BNEQ -2", "12 fe"}, {"BRB 127", "11 7f"}, {"BRB -128", "11 80"}, {"BRW 1", "31 01 00"}, {"BRW -1", "31 ff ff"}, {"BRW 32767", "31 ff 7f"}, {"BRW -32768", "31 00 80"}, {"BSBB 5", "10 05"}, {"SOBGTR R1, -3", "f5 51 fd"},
		{"TSTL #0", "d5 00"}, {"TSTL #63", "d5 3f"}, {"TSTL R0", "d5 50"}, {"TSTL R9", "d5 59"}, {"TSTL R10", "d5 5a"}, {"TSTL R12", "d5 5c"}, {"TSTL R13", "d5 5d"}, {"TSTL R14", "d5 5e"},
		{"TSTL (R1)", "d5 61"}, {"TSTL -(R2)", "d5 72"}, {"TSTL (R3)+", "d5 83"}, {"TSTL @(R4)+", "d5 94"}, {"TSTL 5(R6)", "d5 a6 05"}, {"TSTL -5(R6)", "d5 a6 fb"}, {"TSTL 0(R6)", "d5 a6 00"}, {"TSTL @5(R6)", "d5 b6 05"}, {"TSTL @-128(R15)", "d5 bf 80"}, {"TSTL 127(R15)", "d5 af 7f"},
		{"TSTL 5(R6)", "d5 c6 05 00"}, {"TSTL -32768(R6)", "d5 c6 00 80"}, {"TSTL @32767(R6)", "d5 d6 ff 7f"}, {"TSTL 5(R6)", "d5 e6 05 00 00 00"}, {"TSTL -2147483648(R6)", "d5 e6 00 00 00 80"}, {"TSTL @2147483647(R6)", "d5 f6 ff ff ff 7f"}, {"TSTL @-1(R6)", "d5 f6 ff ff ff ff"},
		{"TSTB #-1", "95 8f ff"}, {"TSTB #127", "95 8f 7f"}, {"TSTB #5", "95 8f 05"}, {"TSTW #-32768", "b5 8f 00 80"}, {"TSTW #300", "b5 8f 2c 01"}, {"TSTL #2147483647", "d5 8f ff ff ff 7f"}, {"TSTL #-2147483648", "d5 8f 00 00 00 80"}, {"TSTL #-1", "d5 8f ff ff ff ff"},
		{"PUSHAB @#-1", "9f 9f ff ff ff ff"}, {"PUSHAB @#0", "9f 9f 00 00 00 00"}, {"PUSHAB @#305419896", "9f 9f 78 56 34 12"}, {"PUSHAB @#-2147483648", "9f 9f 00 00 00 80"},
		{"CLRB @-32768(R6)[R3]", "94 43 d6 00 80"}, {"CLRB (R1)[R0]", "94 40 61"}, {"CLRB -(R1)[R14]", "94 4e 71"}, {"CLRB (R1)+[R12]", "94 4c 81"}, {"CLRB @(R1)+[R13]", "94 4d 91"}, {"CLRB @#1[R9]", "94 49 9f 01 00 00 00"}, {"CLRB 300(R15)[R10]", "94 4a cf 2c 01"},
		{"ADDL3 R1, (R2)+, @-4(R13)", "c1 51 82 bd fc"}, {"MOVC5 #1, (R2), #-1, R4, @(R5)+", "2c 01 62 8f ff 54 95"}, {"INSV #3, R1, #64, (R2)[R3]", "f0 03 51 8f 40 43 62"}, {"BBS #3, R1, -1", "e0 03 51 ff"}, {"AOBLSS #100, (R1)[R2], 8", "f2 8f 64 00 00 00 42 61 08"}, {"CALLS #0, @#4096", "fb 00 9f 00 10 00 00"},
	} {
		b := raw(r.b)
		sameTold(t, bare(b), told{r.text, len(b), api.OK})
		sameTold(t, join(b, raw("ff 5f 00")), told{r.text, len(b), api.OK})
	}
}

// Which error there is: what is met first.
func TestTextErrors(t *testing.T) {
	for text, want := range map[string]told{
		"": cut, "06": noForm, "ff": noForm, "0f 51": noForm, "fd d0 51 52": noForm, "5f": noForm,
		"d0": cut, "d0 05": cut, "d0 5f": noForm, "d0 5f 05": noForm, "d0 51 5f": noForm, "d0 51 05": noForm, "d0 51 8f": noForm, "d0 8f": cut, "d0 8f 01 02 03": cut, "d0 8f 01 02 03 04": cut, "d0 8f 01 02 03 5f": cut, "d0 8f 01 02 03 04 5f": noForm, "d0 8f 01 02 03 04 05": noForm,
		"d0 41": cut, "d0 4f": noForm, "d0 4f 61": noForm, "d0 41 51": noForm, "d0 41 05": noForm, "d0 41 42": noForm, "d0 41 8f": noForm, "d0 41 9f": cut, "d0 41 9f 01 02 03": cut, "d0 41 61": cut, "d0 6f": noForm, "d0 7f": noForm, "d0 9f": cut, "d0 af": cut, "d0 c1 01": cut, "d0 e1 01 02 03": cut,
		"df 51": noForm, "df 05": noForm, "df": cut, "e0 51 05": noForm, "e0 51 52": cut, "e0 5f": noForm, "11": cut, "31": cut, "31 01": cut, "f5 51": cut, "f5 05": noForm, "f5 05 01": noForm, "c1 51 52": cut, "c1 51 5f": noForm, "c1 5f 5f 5f": noForm, "c1 51 a2": cut, "c1 51 52 8f": noForm,
	} {
		sameTold(t, bare(raw(text)), want)
	}
}

// writings: how an operand is written, by its byte's upper four bits.
var writings = [16]string{"#N", "#N", "#N", "#N", "", "R", "(R)", "-(R)", "(R)+", "@(R)+", "N(R)", "@N(R)", "N(R)", "@N(R)", "N(R)", "@N(R)"}

// written: an operand as a text, and how many bytes it has.
func written(b []byte, o api.Operand) (string, int, api.Errno) {
	if o.Access == 'b' {
		return number(b, 0, o.Size, "N")
	}
	index, at := "", 0
	if len(b) > 0 && b[0]>>4 == 4 {
		index, at = "[R"+strconv.Itoa(int(b[0]&15))+"]", 1
		if b[0] == 0x4f {
			return "", 0, api.ErrForm
		}
	}
	if at == len(b) {
		return "", 0, api.ErrLong
	}
	mode, reg := b[at]>>4, b[at]&15
	text, width := writings[mode], [16]int{10: 1, 1, 2, 2, 4, 4}[mode]
	switch {
	case b[at] == 0x8f:
		text, width = "#N", o.Size
	case b[at] == 0x9f:
		text, width = "@#N", 4
	}
	now := text == "#N"
	if mode == 4 || now && (o.Access != 'r' || index != "") || mode == 5 && (o.Access == 'a' || index != "") || 5 <= mode && mode <= 7 && reg == 15 {
		return "", 0, api.ErrForm
	}
	if mode < 4 {
		return "#" + strconv.Itoa(int(b[at])), at + 1, api.OK
	}
	return number(b, at+1, width, strings.Replace(text, "R", "R"+strconv.Itoa(int(reg)), 1)+index)
}

// number: a text with the number in bytes from a place on, with its sign, for its N, and how many bytes there are to its end.
func number(b []byte, at, width int, text string) (string, int, api.Errno) {
	if at+width > len(b) {
		return "", 0, api.ErrLong
	}
	var n int64
	for i := range width {
		n += int64(b[at+i]) << (8 * i)
	}
	if width > 0 && b[at+width-1] >= 128 {
		n -= 1 << (8 * width)
	}
	return strings.Replace(text, "N", strconv.FormatInt(n, 10), 1), at + width, api.OK
}

// modelText: what Text is to answer.
func modelText(b []byte) told {
	if len(b) == 0 {
		return cut
	}
	i, ok := isa.Of(int(b[0]))
	if !ok {
		return noForm
	}
	var list []string
	at := 1
	for _, o := range i.Ops {
		text, n, e := written(b[at:], o)
		if e != api.OK {
			return told{e: e}
		}
		list = append(list, text)
		at += n
	}
	if list == nil {
		return told{i.Name, at, api.OK}
	}
	return told{i.Name + " " + strings.Join(list, ", "), at, api.OK}
}

// plainBytes: bytes of an operand, that can be.
func plainBytes(o api.Operand) []byte {
	if o.Access == 'b' {
		return []byte{0xfe, 0xff, 0xff, 0xff}[:o.Size]
	}
	return []byte{0x62}
}

// behinds: bytes that stand behind an operand's first ones.
var behinds = [][]byte{raw("01 02 03 04 55 61 62 63 64 65"), raw("fe ff ff ff 52 53 54 55 56 57"), raw("80 00 80 00 81 82 83 84 85 86"), raw("7f ff 7f 80 41 61 42 62 43 63")}

// instructions calls f with bytes that begin with each code, and, of each operand, with each byte, and each byte behind some that are an index, the others being plain ones.
func instructions(f func(b []byte)) {
	count := 0
	for code := range 256 {
		head := []byte{byte(code)}
		i, _ := isa.Of(code)
		f(join(head, behinds[code%len(behinds)]))
		for n := range i.Ops {
			var tail []byte
			for _, o := range i.Ops[n+1:] {
				tail = append(tail, plainBytes(o)...)
			}
			for first := range 256 {
				for _, index := range [][]byte{nil, {0x40 + byte(first+first/16+code)%16}} {
					own := behinds[count%len(behinds)]
					count++
					for _, width := range []int{0, 1, 2, 4} {
						f(join(head, index, []byte{byte(first)}, own[:width], tail))
					}
				}
			}
			head = append(head, plainBytes(i.Ops[n])...)
		}
	}
}

// P12.1: Text of every code, with every kind of operand.
func TestTextModel(t *testing.T) {
	fine := 0
	instructions(func(b []byte) {
		got, want := tell(b), modelText(b)
		if got != want {
			t.Fatalf("% x: %s, want %s", b, got, want)
		}
		if want.e == api.OK {
			fine++
		}
	})
	if fine < 100000 {
		t.Errorf("only %d were instructions", fine)
	}
}

// P12.1: codes that are none are ErrForm, whatever stands behind them; of all others a byte alone is cut off, unless there is no operand.
func TestTextCodes(t *testing.T) {
	for code := range 256 {
		i, ok := isa.Of(code)
		want := noForm
		if ok && len(i.Ops) > 0 {
			want = cut
		} else if ok {
			want = told{i.Name, 1, api.OK}
		}
		sameTold(t, bare([]byte{byte(code)}), want)
		if want.e != api.ErrLong {
			for _, behind := range behinds {
				sameTold(t, join([]byte{byte(code)}, behind), want)
			}
		}
	}
	sameTold(t, nil, cut)
	sameTold(t, []byte{}, cut)
}

// P12.1: what stands behind the instruction plays no part; of fewer bytes than it has it is cut off.
func TestTextOwnBytes(t *testing.T) {
	count := 0
	instructions(func(b []byte) {
		count++
		want := tell(b)
		if count%7 != 0 || want.e != api.OK {
			return
		}
		if want.n < 1 || want.n > len(b) {
			t.Fatalf("% x: %s", b, want)
		}
		for k := range want.n {
			sameTold(t, bare(b[:k]), cut)
		}
		own := bare(b[:want.n])
		sameTold(t, own, want)
		for _, behind := range behinds {
			sameTold(t, join(own, behind), want)
		}
		sameTold(t, join(own, raw("5f ff 4f 06")), want)
	})
	many := append(raw("d0 05 7e"), make([]byte, 1<<20)...)
	sameTold(t, many, told{"MOVL #5, -(R14)", 3, api.OK})
}
