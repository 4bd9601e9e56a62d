package isa_test

import (
	"slices"
	"strings"
	"testing"

	"camshaft/api"
	"camshaft/isa"
)

// P10.2: no two instructions have one name; each is found by its own, and what is found is what Of answers.
func TestNames(t *testing.T) {
	seen := map[string]int{}
	for _, x := range instructions() {
		if code, twice := seen[x.Name]; twice {
			t.Errorf("%q is the name of %02X and of %02X", x.Name, code, x.Code)
		}
		seen[x.Name] = x.Code
		y, ok := isa.Find(x.Name)
		is(t, x.Name, y, ok, x)
	}
	if len(seen) != 139 {
		t.Errorf("%d names", len(seen))
	}
}

// P10.1: Code is the code asked, and a name is of capital letters, and a digit at its end at most.
func TestNameForms(t *testing.T) {
	for code := range 0x100 {
		x, ok := isa.Of(code)
		if !ok {
			continue
		}
		if x.Code != code || x.Name == "" || strings.Trim(strings.TrimRight(x.Name, "235"), "ABCDEFGHIJKLMNOPQRSTUVWXYZ") != "" {
			t.Errorf("Of(%02X): %s", code, tell(x))
		}
	}
}

// others: a name in other forms: small letters, blanks, cut short, with more, the size's letter left out or elsewhere.
func others(name string) []string {
	list := []string{strings.ToLower(name), name[:1] + strings.ToLower(name[1:]), strings.ToLower(name[:1]) + name[1:], " " + name, name + " ", "\t" + name, name + "\n", name + "\x00", name[:len(name)-1] + " " + name[len(name)-1:]}
	for i := range len(name) {
		list = append(list, name[:i], name[i+1:], name[:i]+name[i+1:])
		list = append(list, name[:i]+strings.ToLower(name[i:i+1])+name[i+1:])
		if i > 0 {
			list = append(list, name[:i-1]+name[i:i+1]+name[i-1:i]+name[i+1:])
		}
	}
	for _, letter := range "ABCDEFGHIJKLMNOPQRSTUVWXYZ0123456789_" {
		for i := range len(name) + 1 {
			list = append(list, name[:i]+string(letter)+name[i:])
		}
	}
	return list
}

// P10.1: of all other forms of names only those are found that are an instruction's name by themselves.
func TestOtherForms(t *testing.T) {
	names := map[string]row{}
	for _, r := range table {
		names[r.name] = r
	}
	for _, r := range table {
		for _, name := range others(r.name) {
			if o, there := names[name]; there {
				x, ok := isa.Find(name)
				is(t, name, x, ok, o.opcode())
			} else {
				noName(t, name)
			}
		}
	}
}

// P10.1: of all texts of up to three bytes only those are found that the table has.
func TestShortNames(t *testing.T) {
	var want, got []string
	for _, r := range table {
		if len(r.name) <= 3 {
			want = append(want, r.name)
		}
	}
	letters := "\x00 ABCDEFGHIJKLMNOPQRSTUVWXYZ235abx\xff"
	for i := range len(letters) {
		for j := range len(letters) {
			for k := range len(letters) {
				name := string([]byte{letters[i], letters[j], letters[k]})
				if x, ok := isa.Find(name); ok {
					got = append(got, x.Name)
				}
			}
			noName(t, string([]byte{letters[i], letters[j]}))
		}
		noName(t, letters[i:i+1])
	}
	slices.Sort(want)
	slices.Sort(got)
	if !slices.Equal(got, want) {
		t.Errorf("found %q, want %q", got, want)
	}
}

// P10.1: a text of any length is a name or none.
func TestLongNames(t *testing.T) {
	for _, name := range []string{strings.Repeat("A", 1<<20), strings.Repeat("HALT", 1000), "HALT" + strings.Repeat(" ", 1000), strings.Repeat("\x00", 300)} {
		noName(t, name)
	}
}

// Rules 3 and 4: what is answered is new memory. Writing into one answer changes no other one, spare room included.
func TestNewMemory(t *testing.T) {
	for _, r := range table {
		first, _ := isa.Of(r.code)
		second, _ := isa.Of(r.code)
		third, _ := isa.Find(r.name)
		fourth, _ := isa.Find(r.name)
		for _, x := range []api.Opcode{first, third} {
			all := x.Ops[:cap(x.Ops)]
			for i := range all {
				all[i] = api.Operand{Access: '?', Size: -1}
			}
		}
		is(t, "asked ahead", second, true, r.opcode())
		is(t, "found ahead", fourth, true, r.opcode())
		x, ok := isa.Of(r.code)
		is(t, "asked behind", x, ok, r.opcode())
		x, ok = isa.Find(r.name)
		is(t, "found behind", x, ok, r.opcode())
	}
	for _, r := range table {
		x, ok := isa.Of(r.code)
		is(t, "behind all", x, ok, r.opcode())
	}
}

// Rule 4: what is answered doesn't hang on what was asked ahead of it.
func TestOrder(t *testing.T) {
	for _, r := range table {
		for _, other := range table {
			isa.Find(other.name)
			isa.Of(other.code + 1)
			if x, ok := isa.Of(r.code); !ok || !equal(x, r.opcode()) {
				t.Fatalf("Of(%02X) behind %s: %s, %v", r.code, other.name, tell(x), ok)
			}
		}
	}
}
