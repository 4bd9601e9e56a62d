package ulex_test

import (
	"strconv"
	"strings"
	"testing"

	"camshaft/api"
	"camshaft/ulex"
)

// P15.1: lines and their ends.
func TestLines(t *testing.T) {
	lexes(t, "", end(1, 1))
	lexes(t, "\n", end(1, 1), end(2, 1))
	lexes(t, "\n\n\n", end(1, 1), end(2, 1), end(3, 1), end(4, 1))
	lexes(t, "a", name("a", 1, 1), end(1, 2))
	lexes(t, "a\n", name("a", 1, 1), end(1, 2), end(2, 1))
	lexes(t, "\na", end(1, 1), name("a", 2, 1), end(2, 2))
	lexes(t, "a\n\nb", name("a", 1, 1), end(1, 2), end(2, 1), name("b", 3, 1), end(3, 2))
	lexes(t, "ab\ncd\n", name("ab", 1, 1), end(1, 3), name("cd", 2, 1), end(2, 3), end(3, 1))
	lexes(t, "12\n34", number("12", 12, 1, 1), end(1, 3), number("34", 34, 2, 1), end(2, 3))
	lexes(t, "to=loop", name("to", 1, 1), sign("=", 1, 3), name("loop", 1, 4), end(1, 8))
	lexes(t, "\tgo: to = go + 0x1f ; round and round\r\n",
		name("go", 1, 2), sign(":", 1, 4), name("to", 1, 6), sign("=", 1, 9), name("go", 1, 11), sign("+", 1, 14), number("0x1f", 31, 1, 16), end(1, 39),
		end(2, 1))
}

// P15.1: what comes to nothing, but for its columns.
func TestNothing(t *testing.T) {
	lexes(t, " ", end(1, 2))
	lexes(t, "\t", end(1, 2))
	lexes(t, "\r", end(1, 2))
	lexes(t, ";", end(1, 2))
	lexes(t, " \t\r  ;\t", end(1, 8))
	lexes(t, "\r\n", end(1, 2), end(2, 1))
	lexes(t, " a\tb\rc ", name("a", 1, 2), name("b", 1, 4), name("c", 1, 6), end(1, 8))
	lexes(t, "1 2\t3\r4", number("1", 1, 1, 1), number("2", 2, 1, 3), number("3", 3, 1, 5), number("4", 4, 1, 7), end(1, 8))
	lexes(t, "a;b", name("a", 1, 1), end(1, 4))
	lexes(t, "1;2", number("1", 1, 1, 1), end(1, 4))
	lexes(t, "=;=", sign("=", 1, 1), end(1, 4))
	lexes(t, ";a ; b = 1\nc;;", end(1, 11), name("c", 2, 1), end(2, 4))
	lexes(t, ";\n;\n", end(1, 2), end(2, 2), end(3, 1))
	lexes(t, ";\r\na", end(1, 3), name("a", 2, 1), end(2, 2))
}

// P15.1: an end's column is counted in bytes, also behind such as are no letters, or nothing at all.
func TestColumnsAreBytes(t *testing.T) {
	lexes(t, ";é", end(1, 4))
	lexes(t, "a ; é€😀\nb", name("a", 1, 1), end(1, 14), name("b", 2, 1), end(2, 2))
	lexes(t, ";\xff\xc3\xe2\x82", end(1, 6))
	lexes(t, ";\u2028\u0085a\nb", end(1, 8), name("b", 2, 1), end(2, 2))
	faulty(t, ";é\n aé;é", 2, 3)
	faulty(t, "a=b é€", 1, 5)
	faulty(t, "\t\t \r#", 1, 5)
}

// P15.1: names, and how long they may be.
func TestNames(t *testing.T) {
	for i := range letters {
		lexes(t, letters[i:i+1], name(letters[i:i+1], 1, 1), end(1, 2))
	}
	for _, s := range []string{"_0", "__", "a0", "a_9", "A1b2C3", "x0x", "x0x1", "e9", "zZ_09", "end", "NOP", "_1x"} {
		lexes(t, s, name(s, 1, 1), end(1, 1+len(s)))
		lexes(t, "\n "+s+"\t", end(1, 1), name(s, 2, 2), end(2, 3+len(s)))
	}
	for _, c := range []string{"n", "_", "Z", "a9", "_0", "x_", "0x"} {
		for bytes := 1; bytes <= 60; bytes++ {
			s := ("n" + strings.Repeat(c, bytes))[:bytes]
			if bytes <= 24 {
				lexes(t, s, name(s, 1, 1), end(1, 1+bytes))
				lexes(t, "="+s+"=", sign("=", 1, 1), name(s, 1, 2), sign("=", 1, 2+bytes), end(1, 3+bytes))
			} else {
				faulty(t, s, 1, 1)
				faulty(t, "a:"+s+" b", 1, 3)
			}
		}
	}
	full := "abcdefghijklmnopqrst_123"
	lexes(t, full+" "+full, name(full, 1, 1), name(full, 1, 26), end(1, 50))
	lexes(t, full+"\n"+full, name(full, 1, 1), end(1, 25), name(full, 2, 1), end(2, 25))
	faulty(t, full+"4", 1, 1)
	faulty(t, "a\n\t"+full+"_", 2, 2)
	faulty(t, strings.Repeat("a", 1<<17), 1, 1)
}

// P15.1: which numbers there are.
func TestNumbers(t *testing.T) {
	for text, want := range map[string]int{
		"0": 0, "1": 1, "9": 9, "10": 10, "00": 0, "007": 7, "08": 8, "0123": 123, "65536": 65536, "4294967": 4294967,
		"2147483646": 2147483646, "2147483647": 2147483647, "0002147483647": 2147483647, "1999999999": 1999999999,
		"0x0": 0, "0x9": 9, "0xa": 10, "0xF": 15, "0x1F": 31, "0xaBcDeF": 0xabcdef, "0x00000000000000000000000f": 15, "0x10": 16, "0x0e1": 225,
		"0x7fffffff": 2147483647, "0x7FFFFFFF": 2147483647, "0x007fFfFfFf": 2147483647,
	} {
		lexes(t, text, number(text, want, 1, 1), end(1, 1+len(text)))
		lexes(t, "\n-"+text+";", end(1, 1), sign("-", 2, 1), number(text, want, 2, 2), end(2, 3+len(text)))
	}
	noughts := strings.Repeat("0", 60000)
	lexes(t, noughts, number(noughts, 0, 1, 1), end(1, 60001))
	lexes(t, noughts+"12", number(noughts+"12", 12, 1, 1), end(1, 60003))
	lexes(t, "0x"+noughts+"7fffffff", number("0x"+noughts+"7fffffff", 2147483647, 1, 1), end(1, 60011))
	for i := range digits {
		lexes(t, digits[i:i+1], number(digits[i:i+1], i, 1, 1), end(1, 2))
	}
	for i, c := range "0123456789abcdef" {
		text := "0x" + string(c)
		lexes(t, text, number(text, i, 1, 1), end(1, 4))
		text = "0x" + strings.ToUpper(string(c))
		lexes(t, text, number(text, i, 1, 1), end(1, 4))
	}
}

// P15.1: which words that begin with a digit are no numbers.
func TestNoNumbers(t *testing.T) {
	noughts := strings.Repeat("0", 60000)
	for _, text := range []string{
		"2147483648", "2147483649", "2147483650", "2999999999", "3000000000", "4294967295", "4294967296", "4294967297", "10000000000", "9223372036854775808", "18446744073709551615", "18446744073709551616", "18446744073709551617", "36893488147419103232",
		"0002147483648", noughts + "2147483648", strings.Repeat("9", 100000), "1" + noughts,
		"0x", "0x80000000", "0x80000001", "0xffffffff", "0xFFFFFFFF", "0x100000000", "0x100000001", "0x8000000000000000", "0xffffffffffffffff", "0x10000000000000000", "0x10000000000000001", "0x" + noughts + "80000000", "0x1" + noughts, "0x" + strings.Repeat("f", 100000),
		"0X", "0X1", "0XF", "0x0x1", "0xx", "0x1x", "0xg", "0xG", "0x1g", "0xfg", "0xfG0", "00x1", "1x1", "10x1", "0b1", "0o7", "0B1", "0O7", "0b", "0o",
		"1a", "12a", "9e", "1e5", "1E5", "0a", "0f", "7f", "1A", "1x", "123456789z", "0z", "0Z",
		"1_", "1_000", "0_", "0_1", "0__1", "0x_", "0x_1", "0x1_", "0x1_0", "1_a", "0x1p3", "0x1p",
	} {
		faulty(t, text, 1, 1)
		faulty(t, " "+text, 1, 2)
		faulty(t, "a = 1 +"+text+" # 2147483648", 1, 8)
		faulty(t, "a\n\r\n=:"+text+";", 3, 3)
		lexes(t, "1;"+text, number("1", 1, 1, 1), end(1, 3+len(text)))
	}
}

// P15.1: signs, side by side with all else and one another.
func TestSigns(t *testing.T) {
	lexes(t, ":=.+-", sign(":", 1, 1), sign("=", 1, 2), sign(".", 1, 3), sign("+", 1, 4), sign("-", 1, 5), end(1, 6))
	lexes(t, "-+.=:", sign("-", 1, 1), sign("+", 1, 2), sign(".", 1, 3), sign("=", 1, 4), sign(":", 1, 5), end(1, 6))
	for i := range signs {
		s := signs[i : i+1]
		lexes(t, s, sign(s, 1, 1), end(1, 2))
		lexes(t, "a"+s, name("a", 1, 1), sign(s, 1, 2), end(1, 3))
		lexes(t, s+"a", sign(s, 1, 1), name("a", 1, 2), end(1, 3))
		lexes(t, "a"+s+"b", name("a", 1, 1), sign(s, 1, 2), name("b", 1, 3), end(1, 4))
		lexes(t, "1"+s, number("1", 1, 1, 1), sign(s, 1, 2), end(1, 3))
		lexes(t, s+"1", sign(s, 1, 1), number("1", 1, 1, 2), end(1, 3))
		lexes(t, "1"+s+"0x2", number("1", 1, 1, 1), sign(s, 1, 2), number("0x2", 2, 1, 3), end(1, 6))
		lexes(t, "0xe"+s+"1", number("0xe", 14, 1, 1), sign(s, 1, 4), number("1", 1, 1, 5), end(1, 6))
		lexes(t, s+";"+s, sign(s, 1, 1), end(1, 4))
		lexes(t, s+"\n"+s, sign(s, 1, 1), end(1, 2), sign(s, 2, 1), end(2, 2))
		for j := range signs {
			o := signs[j : j+1]
			lexes(t, s+o, sign(s, 1, 1), sign(o, 1, 2), end(1, 3))
			lexes(t, s+" "+o, sign(s, 1, 1), sign(o, 1, 3), end(1, 4))
		}
		faulty(t, s+"12a", 1, 2)
		faulty(t, s+"#", 1, 2)
		faulty(t, "0x"+s+"1", 1, 1)
	}
}

// P15.1: the first fault alone is told.
func TestFaults(t *testing.T) {
	faulty(t, "#", 1, 1)
	faulty(t, "##", 1, 1)
	faulty(t, "a#", 1, 2)
	faulty(t, "1#", 1, 2)
	faulty(t, "a #;", 1, 3)
	faulty(t, "a\n\n\n b #\n#", 4, 4)
	faulty(t, "#\n#", 1, 1)
	faulty(t, "; #\n12a #\n#", 2, 1)
	faulty(t, "12a#", 1, 1)
	faulty(t, "#12a", 1, 1)
	faulty(t, "nnnnnnnnnnnnnnnnnnnnnnnnn 12a", 1, 1)
	faulty(t, "12a nnnnnnnnnnnnnnnnnnnnnnnnn", 1, 1)
	faulty(t, "a é", 1, 3)
	faulty(t, "aé", 1, 2)
	faulty(t, "éa", 1, 1)
	faulty(t, "1é", 1, 2)
	faulty(t, "a\xc3", 1, 2)
	faulty(t, "\xef\xbb\xbfa", 1, 1)
	faulty(t, "a\x00", 1, 2)
	faulty(t, "a\vb", 1, 2)
	faulty(t, "a\fb", 1, 2)
	faulty(t, "a\u0085b", 1, 2)
	faulty(t, "a\u00a0b", 1, 2)
	for _, bad := range append(bads(), "12a", "0x", "2147483648", "nnnnnnnnnnnnnnnnnnnnnnnnn") {
		faulty(t, bad, 1, 1)
		faulty(t, "a = b + 1 "+bad, 1, 11)
		faulty(t, "a\n. 5 "+bad+"\nb", 2, 5)
		lexes(t, "; a "+bad+"\nb", end(1, 5+len(bad)), name("b", 2, 1), end(2, 2))
		lexes(t, ";"+bad+bad, end(1, 2+2*len(bad)))
	}
}

// P15.1: every byte as a line's first one.
func TestFirstBytes(t *testing.T) {
	for i := range 256 {
		c := byte(i)
		s := string([]byte{c})
		switch {
		case c == '\n':
			lexes(t, s, end(1, 1), end(2, 1))
		case c == ';' || among(c, whites):
			lexes(t, s, end(1, 2))
			lexes(t, "a\n"+s, name("a", 1, 1), end(1, 2), end(2, 2))
		case among(c, letters):
			lexes(t, s, name(s, 1, 1), end(1, 2))
			lexes(t, "a\n"+s+"\n", name("a", 1, 1), end(1, 2), name(s, 2, 1), end(2, 2), end(3, 1))
		case among(c, digits):
			lexes(t, s, number(s, int(c-'0'), 1, 1), end(1, 2))
			lexes(t, "a\n"+s+"\n", name("a", 1, 1), end(1, 2), number(s, int(c-'0'), 2, 1), end(2, 2), end(3, 1))
		case among(c, signs):
			lexes(t, s, sign(s, 1, 1), end(1, 2))
		default:
			faulty(t, s, 1, 1)
			faulty(t, s+"a", 1, 1)
			faulty(t, "a\n"+s, 2, 1)
		}
	}
}

// P15.1: every byte behind a letter.
func TestBytesBehindLetter(t *testing.T) {
	for i := range 256 {
		c := byte(i)
		s := string([]byte{c})
		switch {
		case c == '\n':
			lexes(t, "a"+s, name("a", 1, 1), end(1, 2), end(2, 1))
		case c == ';' || among(c, whites):
			lexes(t, "a"+s, name("a", 1, 1), end(1, 3))
		case among(c, letters+digits):
			lexes(t, "a"+s, name("a"+s, 1, 1), end(1, 3))
			lexes(t, "a"+s+"b", name("a"+s+"b", 1, 1), end(1, 4))
		case among(c, signs):
			lexes(t, "a"+s, name("a", 1, 1), sign(s, 1, 2), end(1, 3))
		default:
			faulty(t, "a"+s, 1, 2)
			faulty(t, "a"+s+"b", 1, 2)
		}
	}
}

// P15.1: every byte behind a digit.
func TestBytesBehindDigit(t *testing.T) {
	for i := range 256 {
		c := byte(i)
		s := string([]byte{c})
		switch {
		case c == '\n':
			lexes(t, "1"+s, number("1", 1, 1, 1), end(1, 2), end(2, 1))
		case c == ';' || among(c, whites):
			lexes(t, "1"+s, number("1", 1, 1, 1), end(1, 3))
		case among(c, digits):
			lexes(t, "1"+s, number("1"+s, 10+int(c-'0'), 1, 1), end(1, 3))
		case among(c, letters):
			faulty(t, "1"+s, 1, 1)
			faulty(t, "0"+s, 1, 1)
		case among(c, signs):
			lexes(t, "1"+s, number("1", 1, 1, 1), sign(s, 1, 2), end(1, 3))
		default:
			faulty(t, "1"+s, 1, 2)
			faulty(t, "1"+s+"2", 1, 2)
		}
	}
}

// P15.1: every byte behind 0x, and behind a digit behind it.
func TestBytesBehindHexadecimal(t *testing.T) {
	for i := range 256 {
		c := byte(i)
		s := string([]byte{c})
		x, err := strconv.ParseInt(s, 16, 64)
		switch {
		case err == nil:
			lexes(t, "0x"+s, number("0x"+s, int(x), 1, 1), end(1, 4))
			lexes(t, "0x3"+s, number("0x3"+s, 48+int(x), 1, 1), end(1, 5))
		case among(c, letters):
			faulty(t, "0x"+s, 1, 1)
			faulty(t, "0x3"+s, 1, 1)
		default:
			faulty(t, "0x"+s, 1, 1)
			faulty(t, "0x"+s+"3", 1, 1)
		}
	}
}

// P15.1: 2^17 bytes, and one more.
func TestLongTexts(t *testing.T) {
	const most = 1 << 17
	lexes(t, strings.Repeat(" ", most), end(1, most+1))
	lexes(t, ";"+strings.Repeat("#", most-1), end(1, most+1))
	long(t, strings.Repeat(" ", most+1))
	long(t, strings.Repeat("#", most+1))
	long(t, strings.Repeat("a", most+1))
	long(t, strings.Repeat("a ", most))
	long(t, strings.Repeat(" ", most)+"#")
	long(t, "#"+strings.Repeat("\n", most))
	faulty(t, strings.Repeat(" ", most-1)+"#", 1, most)
	faulty(t, strings.Repeat("\n", most-1)+"#", most, 1)
	faulty(t, strings.Repeat("#", most), 1, 1)

	list, at, e := ulex.Lex(strings.Repeat("\n", most))
	if len(list) != most+1 || at != [2]int{} || e != api.OK {
		t.Fatalf("%d tokens, %v, %d", len(list), at, e)
	}
	for i, x := range list {
		if x != end(i+1, 1) {
			t.Fatalf("token %d: %+v", i, x)
		}
	}
	list, at, e = ulex.Lex(strings.Repeat("+", most))
	if len(list) != most+1 || at != [2]int{} || e != api.OK || list[most] != end(1, most+1) {
		t.Fatalf("%d tokens, %v, %d", len(list), at, e)
	}
	for i, x := range list[:most] {
		if x != sign("+", 1, i+1) {
			t.Fatalf("token %d: %+v", i, x)
		}
	}
}

// P15.1: the kinds, as the chapter numbers them.
func TestKinds(t *testing.T) {
	if ulex.End != 0 || ulex.Name != 1 || ulex.Number != 2 || ulex.Sign != 3 {
		t.Errorf("%d, %d, %d, %d", ulex.End, ulex.Name, ulex.Number, ulex.Sign)
	}
}
