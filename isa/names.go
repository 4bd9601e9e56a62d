package isa

// How the codes lie: below early single instructions; from rows on rows of span codes each, a size's family first, and from the place odd on single ones again; from late on single ones alone. The first row is of no size, and has no family.
const (
	codes = 0x100
	early = 0x40
	rows  = 0x60
	late  = 0xe0
	span  = 0x20
	odd   = 0x18
)

// earlyNames: those of the codes from 0 on.
var earlyNames = [early]string{
	0x00: "HALT", 0x01: "NOP", 0x02: "REI", 0x03: "BPT", 0x04: "RET", 0x05: "RSB",
	0x10: "BSBB", 0x11: "BRB", 0x12: "BNEQ", 0x13: "BEQL", 0x14: "BGTR", 0x15: "BLEQ", 0x16: "JSB", 0x17: "JMP",
	0x18: "BGEQ", 0x19: "BLSS", 0x1a: "BGTRU", 0x1b: "BLEQU", 0x1c: "BVC", 0x1d: "BVS", 0x1e: "BCC", 0x1f: "BCS",
	0x28: "MOVC3", 0x29: "CMPC3", 0x2c: "MOVC5", 0x2d: "CMPC5",
	0x30: "BSBW", 0x31: "BRW", 0x32: "CVTWL", 0x33: "CVTWB", 0x3a: "LOCC", 0x3b: "SKPC", 0x3c: "MOVZWL",
}

// oddNames: those of each row's codes behind its family.
var oddNames = [4][span - odd]string{
	{"ASHL"},
	{"CVTBL", "CVTBW", "MOVZBL", "MOVZBW", "ROTL", "", "MOVAB", "PUSHAB"},
	{"BISPSW", "BICPSW", "POPR", "PUSHR", "CHMK", "", "MOVAW", "PUSHAW"},
	{"ADWC", "SBWC", "MTPR", "MFPR", "MOVPSL", "PUSHL", "MOVAL", "PUSHAL"},
}

// lateNames: those of the codes from late on.
var lateNames = [codes - late]string{
	0x00: "BBS", 0x01: "BBC", 0x08: "BLBS", 0x09: "BLBC", 0x0e: "EXTV", 0x0f: "EXTZV",
	0x10: "INSV", 0x12: "AOBLSS", 0x13: "AOBLEQ", 0x14: "SOBGEQ", 0x15: "SOBGTR", 0x16: "CVTLB", 0x17: "CVTLW", 0x1b: "CALLS",
}

// familyNames: those of a family, without the letter of its size.
var familyNames = [odd]string{
	0x00: "ADD2", 0x01: "ADD3", 0x02: "SUB2", 0x03: "SUB3", 0x04: "MUL2", 0x05: "MUL3", 0x06: "DIV2", 0x07: "DIV3",
	0x08: "BIS2", 0x09: "BIS3", 0x0a: "BIC2", 0x0b: "BIC3", 0x0c: "XOR2", 0x0d: "XOR3", 0x0e: "MNEG",
	0x10: "MOV", 0x11: "CMP", 0x12: "MCOM", 0x13: "BIT", 0x14: "CLR", 0x15: "TST", 0x16: "INC", 0x17: "DEC",
}

// nameOf: the name of a code's instruction; empty: there is none.
func nameOf(code int) string {
	switch {
	case code < 0 || code >= codes:
		return ""
	case code < early:
		return earlyNames[code]
	case code < rows:
		return ""
	case code >= late:
		return lateNames[code-late]
	}
	row, at := place(code)
	if at >= odd {
		return oddNames[row][at-odd]
	}
	if row == 0 {
		return ""
	}
	return lettered(familyNames[at], "BWL"[row-1:row])
}

// place: the row of a code from rows on, and where it stands there.
func place(code int) (row, at int) { return (code - rows) / span, (code - rows) % span }

// lettered: a family's name with a size's letter, ahead of the 2 or 3 that it may end with.
func lettered(name, letter string) string {
	if name == "" {
		return ""
	}
	end := len(name) - 1
	if name[end] == '2' || name[end] == '3' {
		return name[:end] + letter + name[end:]
	}
	return name + letter
}
