package psl_test

import (
	"testing"

	"camshaft/api"
	"camshaft/psl"
)

// P6.1, by hand: numbers that are written out here.

func TestConstants(t *testing.T) {
	bits := [7]uint32{psl.C, psl.V, psl.Z, psl.N, psl.Was, psl.User, psl.FPD}
	if bits != [7]uint32{1, 2, 4, 8, 0x00400000, 0x01000000, 0x08000000} {
		t.Errorf("%x", bits)
	}
}

func TestFlagsByHand(t *testing.T) {
	for _, c := range []struct {
		x    uint32
		want api.Flags
	}{
		{0, api.Flags{}},
		{1, api.Flags{C: true}},
		{2, api.Flags{V: true}},
		{4, api.Flags{Z: true}},
		{8, api.Flags{N: true}},
		{0xf, api.Flags{N: true, Z: true, V: true, C: true}},
		{0xfffffff0, api.Flags{}},
		{0xffffffff, api.Flags{N: true, Z: true, V: true, C: true}},
		{0x01400009, api.Flags{N: true, C: true}},
		{0x081f0006, api.Flags{Z: true, V: true}},
	} {
		if f := psl.Flags(c.x); f != c.want {
			t.Errorf("Flags(%08x): %v", c.x, f)
		}
	}
}

func TestWithByHand(t *testing.T) {
	for _, c := range []struct {
		x    uint32
		f    api.Flags
		want uint32
	}{
		{0, api.Flags{}, 0},
		{0xf, api.Flags{}, 0},
		{0, api.Flags{C: true}, 1},
		{0xf, api.Flags{V: true}, 2},
		{0xb, api.Flags{Z: true}, 4},
		{0x7, api.Flags{N: true}, 8},
		{0xffffffff, api.Flags{}, 0xfffffff0},
		{0xfffffff0, api.Flags{N: true, Z: true, V: true, C: true}, 0xffffffff},
		{0x0940000a, api.Flags{Z: true, C: true}, 0x09400005},
	} {
		if x := psl.With(c.x, c.f); x != c.want {
			t.Errorf("With(%08x, %v): %08x, want %08x", c.x, c.f, x, c.want)
		}
	}
}

func TestIplByHand(t *testing.T) {
	for _, c := range []struct {
		x    uint32
		want int
	}{
		{0, 0},
		{0x00010000, 1},
		{0x00100000, 16},
		{0x001f0000, 31},
		{0x00200000, 0},
		{0x0000ffff, 0},
		{0xffe0ffff, 0},
		{0xffffffff, 31},
		{0xfff4ffff, 20},
	} {
		if level := psl.Ipl(c.x); level != c.want {
			t.Errorf("Ipl(%08x): %d", c.x, level)
		}
	}
}

func TestAtByHand(t *testing.T) {
	for _, c := range []struct {
		x     uint32
		level int
		want  uint32
	}{
		{0, 0, 0},
		{0, 17, 0x00110000},
		{0, 31, 0x001f0000},
		{0, 32, 0},
		{0, 33, 0x00010000},
		{0, -1, 0x001f0000},
		{0, -32, 0},
		{0, -31, 0x00010000},
		{0x001f0000, 0, 0},
		{0x00150000, 10, 0x000a0000},
		{0xffffffff, 0, 0xffe0ffff},
		{0xffffffff, 64, 0xffe0ffff},
		{0xffe0ffff, -1, 0xffffffff},
		{0x0940000f, 3, 0x0943000f},
	} {
		if x := psl.At(c.x, c.level); x != c.want {
			t.Errorf("At(%08x, %d): %08x, want %08x", c.x, c.level, x, c.want)
		}
	}
}

func TestEnterByHand(t *testing.T) {
	for _, c := range []struct {
		x     uint32
		level int
		want  uint32
	}{
		{0x01400000, 20, 0x00540000},
		{0x0940000f, 0, 0x00400000},
		{0x01000000, 31, 0x005f0000},
		{0x011f0000, 1, 0x00410000},
		{0, 0, 0},
		{0, 20, 0x00140000},
		{0x00400000, 5, 0x00050000},
		{0x085f000f, 7, 0x00070000},
		{0x08400000, 0, 0},
		{0xffffffff, 0, 0x00400000},
		{0xfeffffff, 0, 0},
		{0xffffffff, 32, 0x00400000},
		{0x01400000, -1, 0x005f0000},
		{0x00400000, 33, 0x00010000},
	} {
		if x := psl.Enter(c.x, c.level); x != c.want {
			t.Errorf("Enter(%08x, %d): %08x, want %08x", c.x, c.level, x, c.want)
		}
	}
}

func TestGoodByHand(t *testing.T) {
	for _, c := range []struct {
		x    uint32
		want bool
	}{
		{0, true},
		{0x0000000f, true},
		{0x001f0000, true},
		{0x00400000, true},
		{0x08000000, true},
		{0x085f000f, true},
		{0x01400000, true},
		{0x0940000f, true},
		{0x01000000, false},
		{0x09000000, false},
		{0x01410000, false},
		{0x01500000, false},
		{0x01010000, false},
		{0x011f000f, false},
		{0x00000010, false},
		{0x00008000, false},
		{0x00200000, false},
		{0x00800000, false},
		{0x02000000, false},
		{0x04000000, false},
		{0x10000000, false},
		{0x80000000, false},
		{0x01400010, false},
		{0x81400000, false},
		{0xffffffff, false},
	} {
		if good := psl.Good(c.x); good != c.want {
			t.Errorf("Good(%08x): %v", c.x, good)
		}
	}
}

func TestBackByHand(t *testing.T) {
	for _, c := range []struct {
		name     string
		from, to uint32
		want     bool
	}{
		{"user to user", 0x01400000, 0x01400000, true},
		{"user to user, other codes and FPD", 0x01400003, 0x0940000c, true},
		{"user to kernel", 0x01400000, 0, false},
		{"user to kernel with Was", 0x01400000, 0x00400000, false},
		{"a user with a level to kernel", 0x015f0000, 0x00010000, false},
		{"a user with a level to user", 0x01450000, 0x01400000, true},
		{"kernel to user", 0, 0x01400000, true},
		{"kernel at a level to user", 0x001f0000, 0x01400000, true},
		{"kernel to kernel", 0, 0, true},
		{"to a lower level", 0x00050000, 0x00040000, true},
		{"to the same level", 0x00050000, 0x00050000, true},
		{"to a higher level", 0x00050000, 0x00060000, false},
		{"to a higher level, of which a lower bit is less", 0x000f0000, 0x00100000, false},
		{"from 31 to 31", 0x001f0000, 0x085f000f, true},
		{"from 0 to 1", 0, 0x00010000, false},
		{"to a user without Was", 0x001f0000, 0x01000000, false},
		{"to a user with a level", 0x001f0000, 0x01410000, false},
		{"user to a user with a level", 0x015f0000, 0x01410000, false},
		{"to other bits", 0x001f0000, 0x00000010, false},
		{"to a user with other bits", 0x001f0000, 0x01400020, false},
		{"from other bits to the same", 0x00200000, 0x00200000, false},
		{"from other bits to kernel", 0xfee0ffff, 0, true},
		{"from other bits to a higher level", 0xfee0ffff, 0x00010000, false},
		{"from all bits to kernel", 0xffffffff, 0, false},
		{"from all bits to user", 0xffffffff, 0x01400000, true},
	} {
		if back := psl.Back(c.from, c.to); back != c.want {
			t.Errorf("%s: Back(%08x, %08x): %v", c.name, c.from, c.to, back)
		}
	}
}
