package ram_test

import (
	"bytes"
	"math"
	"testing"

	"camshaft/api"
	"camshaft/ram"
)

// P2.1: how many bytes a new memory has, and that all of them are noughts.
func TestNew(t *testing.T) {
	table := []struct{ size, want int }{
		{-1, 0}, {-4, 0}, {math.MinInt32, 0}, {math.MinInt, 0},
		{0, 0}, {1, 1}, {3, 3}, {512, 512}, {65537, 65537},
		{1<<24 - 1, 1<<24 - 1}, {1 << 24, 1 << 24}, {1<<24 + 1, 1 << 24}, {1 << 25, 1 << 24}, {math.MaxInt32, 1 << 24}, {math.MaxInt, 1 << 24},
	}
	for _, c := range table {
		r := ram.New(c.size)
		if r == nil || r.Size() != c.want {
			t.Fatalf("New(%d): Size %d, want %d", c.size, r.Size(), c.want)
		}
		b, e := r.Bytes(0, c.want)
		if e != api.OK || len(b) != c.want || bytes.Count(b, []byte{0}) != c.want {
			t.Errorf("New(%d): %d bytes (%d), not all noughts", c.size, len(b), e)
		}
		if _, e := r.Bytes(0, c.want+1); e != api.ErrBus {
			t.Errorf("New(%d): one byte more: %d", c.size, e)
		}
	}
}

// P2.1: numbers got out of the bytes 1, 2, .. 8.
func TestGet(t *testing.T) {
	r := ram.New(8)
	r.Load(0, 1, 2, 3, 4, 5, 6, 7, 0x88)
	table := []struct {
		at   uint32
		size int
		x    uint32
		e    api.Errno
	}{
		{0, 0, 0, api.OK}, {0, 1, 1, api.OK}, {0, 2, 0x0201, api.OK}, {0, 3, 0x030201, api.OK}, {0, 4, 0x04030201, api.OK},
		{3, 1, 4, api.OK}, {3, 2, 0x0504, api.OK}, {3, 3, 0x060504, api.OK}, {3, 4, 0x07060504, api.OK},
		{7, 1, 0x88, api.OK}, {6, 2, 0x8807, api.OK}, {5, 3, 0x880706, api.OK}, {4, 4, 0x88070605, api.OK},
		{7, 2, 0, api.ErrBus}, {6, 3, 0, api.ErrBus}, {5, 4, 0, api.ErrBus}, {7, 4, 0, api.ErrBus},
		{7, 0, 0, api.OK}, {8, 0, 0, api.OK}, {9, 0, 0, api.ErrBus}, {8, 1, 0, api.ErrBus}, {9, 1, 0, api.ErrBus},
		{0, 5, 0, api.ErrBus}, {0, 8, 0, api.ErrBus}, {0, -1, 0, api.ErrBus}, {8, -1, 0, api.ErrBus}, {4, -4, 0, api.ErrBus},
		{0, math.MaxInt, 0, api.ErrBus}, {8, math.MaxInt, 0, api.ErrBus}, {0, math.MinInt, 0, api.ErrBus},
		{math.MaxUint32, 0, 0, api.ErrBus}, {math.MaxUint32, 1, 0, api.ErrBus}, {math.MaxUint32, 2, 0, api.ErrBus}, {math.MaxUint32 - 3, 4, 0, api.ErrBus},
		{0x80000000, 0, 0, api.ErrBus}, {0x80000000, 4, 0, api.ErrBus}, {1 << 24, 1, 0, api.ErrBus}, {0x100, 1, 0, api.ErrBus},
	}
	for _, c := range table {
		if x, e := r.Get(c.at, c.size); x != c.x || e != c.e {
			t.Errorf("Get(%x, %d): %x (%d), want %x (%d)", c.at, c.size, x, e, c.x, c.e)
		}
	}
}

// P2.1, P2.2: numbers put over the bytes 1, 2, .. 6; where it is ErrBus, nothing is put.
func TestPut(t *testing.T) {
	const old = "\x01\x02\x03\x04\x05\x06"
	table := []struct {
		at   uint32
		x    uint32
		size int
		want string
		e    api.Errno
	}{
		{0, 258, 2, "\x02\x01\x03\x04\x05\x06", api.OK},
		{0, 0xaabbccdd, 0, old, api.OK},
		{0, 0xaabbccdd, 1, "\xdd\x02\x03\x04\x05\x06", api.OK},
		{1, 0xaabbccdd, 2, "\x01\xdd\xcc\x04\x05\x06", api.OK},
		{1, 0xaabbccdd, 3, "\x01\xdd\xcc\xbb\x05\x06", api.OK},
		{1, 0xaabbccdd, 4, "\x01\xdd\xcc\xbb\xaa\x06", api.OK},
		{2, 0xaabbccdd, 4, "\x01\x02\xdd\xcc\xbb\xaa", api.OK},
		{5, 0xaabbccdd, 1, "\x01\x02\x03\x04\x05\xdd", api.OK},
		{4, 0, 2, "\x01\x02\x03\x04\x00\x00", api.OK},
		{6, 0xaabbccdd, 0, old, api.OK},
		{7, 0xaabbccdd, 0, old, api.ErrBus},
		{6, 0xaabbccdd, 1, old, api.ErrBus},
		{5, 0xaabbccdd, 2, old, api.ErrBus},
		{4, 0xaabbccdd, 3, old, api.ErrBus},
		{3, 0xaabbccdd, 4, old, api.ErrBus},
		{0, 0xaabbccdd, 5, old, api.ErrBus},
		{0, 0xaabbccdd, 6, old, api.ErrBus},
		{0, 0xaabbccdd, -1, old, api.ErrBus},
		{3, 0xaabbccdd, -1, old, api.ErrBus},
		{0, 0xaabbccdd, math.MaxInt, old, api.ErrBus},
		{6, 0xaabbccdd, math.MaxInt, old, api.ErrBus},
		{0, 0xaabbccdd, math.MinInt, old, api.ErrBus},
		{math.MaxUint32, 0xaabbccdd, 0, old, api.ErrBus},
		{math.MaxUint32, 0xaabbccdd, 1, old, api.ErrBus},
		{math.MaxUint32, 0xaabbccdd, 2, old, api.ErrBus},
		{math.MaxUint32 - 1, 0xaabbccdd, 4, old, api.ErrBus},
		{0x80000000, 0xaabbccdd, 4, old, api.ErrBus},
		{0x100, 0xaabbccdd, 1, old, api.ErrBus},
	}
	for _, c := range table {
		r := ram.New(6)
		r.Load(0, []byte(old)...)
		if e := r.Put(c.at, c.x, c.size); e != c.e {
			t.Errorf("Put(%x, %x, %d): %d, want %d", c.at, c.x, c.size, e, c.e)
		}
		if b, _ := r.Bytes(0, 6); string(b) != c.want {
			t.Errorf("Put(%x, %x, %d): %x, want %x", c.at, c.x, c.size, b, c.want)
		}
	}
}

// P2.1: bytes loaded over 1, 2, .. 5, all or none.
func TestLoad(t *testing.T) {
	const old = "\x01\x02\x03\x04\x05"
	table := []struct {
		at   uint32
		b    string
		want string
		e    api.Errno
	}{
		{0, "", old, api.OK}, {4, "", old, api.OK}, {5, "", old, api.OK}, {6, "", old, api.ErrBus}, {math.MaxUint32, "", old, api.ErrBus}, {0x80000000, "", old, api.ErrBus},
		{0, "x", "x\x02\x03\x04\x05", api.OK}, {4, "x", "\x01\x02\x03\x04x", api.OK}, {5, "x", old, api.ErrBus}, {6, "x", old, api.ErrBus},
		{1, "abc", "\x01abc\x05", api.OK}, {2, "abc", "\x01\x02abc", api.OK}, {3, "abc", old, api.ErrBus},
		{0, "abcde", "abcde", api.OK}, {0, "abcdef", old, api.ErrBus}, {1, "abcde", old, api.ErrBus},
		{math.MaxUint32, "ab", old, api.ErrBus}, {math.MaxUint32 - 1, "abcd", old, api.ErrBus}, {0x100, "a", old, api.ErrBus},
	}
	for _, c := range table {
		r := ram.New(5)
		r.Load(0, 1, 2, 3, 4, 5)
		if e := r.Load(c.at, []byte(c.b)...); e != c.e {
			t.Errorf("Load(%x, %q): %d, want %d", c.at, c.b, e, c.e)
		}
		if b, _ := r.Bytes(0, 5); string(b) != c.want {
			t.Errorf("Load(%x, %q): %x, want %x", c.at, c.b, b, c.want)
		}
	}
}

// P2.1: bytes asked of 1, 2, .. 5.
func TestBytes(t *testing.T) {
	r := ram.New(5)
	r.Load(0, 1, 2, 3, 4, 5)
	table := []struct {
		at   uint32
		n    int
		want string
		e    api.Errno
	}{
		{0, 0, "", api.OK}, {4, 0, "", api.OK}, {5, 0, "", api.OK}, {6, 0, "", api.ErrBus}, {math.MaxUint32, 0, "", api.ErrBus}, {0x80000000, 0, "", api.ErrBus},
		{0, 1, "\x01", api.OK}, {4, 1, "\x05", api.OK}, {5, 1, "", api.ErrBus}, {6, 1, "", api.ErrBus},
		{1, 3, "\x02\x03\x04", api.OK}, {2, 3, "\x03\x04\x05", api.OK}, {3, 3, "", api.ErrBus},
		{0, 5, "\x01\x02\x03\x04\x05", api.OK}, {0, 6, "", api.ErrBus}, {1, 5, "", api.ErrBus},
		{0, -1, "", api.ErrBus}, {5, -1, "", api.ErrBus}, {5, -5, "", api.ErrBus}, {6, -1, "", api.ErrBus},
		{0, math.MinInt, "", api.ErrBus}, {0, math.MaxInt, "", api.ErrBus}, {5, math.MaxInt, "", api.ErrBus}, {math.MaxUint32, math.MaxInt, "", api.ErrBus},
		{math.MaxUint32, 1, "", api.ErrBus}, {math.MaxUint32, 2, "", api.ErrBus}, {math.MaxUint32 - 1, 4, "", api.ErrBus}, {0x100, 1, "", api.ErrBus},
	}
	for _, c := range table {
		b, e := r.Bytes(c.at, c.n)
		if string(b) != c.want || e != c.e {
			t.Errorf("Bytes(%x, %d): %x (%d), want %x (%d)", c.at, c.n, b, e, c.want, c.e)
		}
	}
}

// P2.1: a memory of no bytes has its end, and no other place.
func TestNoBytes(t *testing.T) {
	for _, r := range []*ram.Ram{ram.New(0), ram.New(-1), ram.New(0).Copy()} {
		if r == nil || r.Size() != 0 {
			t.Fatal("no memory, or some bytes")
		}
		_, get := r.Get(0, 0)
		b, some := r.Bytes(0, 0)
		if get != api.OK || some != api.OK || len(b) != 0 || r.Put(0, 1, 0) != api.OK || r.Load(0) != api.OK {
			t.Error("nothing at the end")
		}
		_, get = r.Get(0, 1)
		_, some = r.Bytes(0, 1)
		if get != api.ErrBus || some != api.ErrBus || r.Put(0, 1, 1) != api.ErrBus || r.Load(0, 1) != api.ErrBus {
			t.Error("a byte at the end")
		}
		_, get = r.Get(1, 0)
		_, some = r.Bytes(1, 0)
		if get != api.ErrBus || some != api.ErrBus || r.Put(1, 1, 0) != api.ErrBus || r.Load(1) != api.ErrBus {
			t.Error("nothing behind the end")
		}
	}
}

// P2.1: the greatest memory, at both of its ends.
func TestGreatest(t *testing.T) {
	const last = 1<<24 - 1
	r := ram.New(1 << 24)
	if r.Put(0, 0x11, 1) != api.OK || r.Put(last-3, 0xaabbccdd, 4) != api.OK || r.Load(last, 0x77) != api.OK {
		t.Error("the ends")
	}
	if r.Put(last, 0x9999, 2) != api.ErrBus || r.Put(last+1, 0x99, 1) != api.ErrBus || r.Load(last, 1, 2) != api.ErrBus || r.Put(last+1, 1, 0) != api.OK || r.Put(last+2, 1, 0) != api.ErrBus {
		t.Error("beyond the end")
	}
	if x, e := r.Get(last-3, 4); x != 0x77bbccdd || e != api.OK {
		t.Errorf("Get: %x (%d)", x, e)
	}
	b, e := r.Bytes(0, 1<<24)
	if e != api.OK || b[0] != 0x11 || bytes.Count(b, []byte{0}) != 1<<24-5 {
		t.Errorf("Bytes: %x.. (%d)", b[:4], e)
	}
	if _, e := r.Bytes(1, 1<<24); e != api.ErrBus {
		t.Errorf("one too many: %d", e)
	}
	if c := r.Copy(); c.Size() != 1<<24 {
		t.Errorf("Copy: %d", c.Size())
	} else if all, _ := c.Bytes(0, 1<<24); !bytes.Equal(all, b) {
		t.Error("Copy: other bytes")
	}
}

// P2.1: a nil memory answers 0, a nil one and ErrNil, also where a size or a place couldn't be.
func TestNil(t *testing.T) {
	var r *ram.Ram
	if r.Size() != 0 || r.Copy() != nil {
		t.Errorf("Size %d, Copy %v", r.Size(), r.Copy())
	}
	for _, at := range places(2) {
		for _, n := range counts(2) {
			if x, e := r.Get(at, n); x != 0 || e != api.ErrNil {
				t.Fatalf("Get(%x, %d): %x (%d)", at, n, x, e)
			}
			if e := r.Put(at, 1, n); e != api.ErrNil {
				t.Fatalf("Put(%x, 1, %d): %d", at, n, e)
			}
			if b, e := r.Bytes(at, n); len(b) != 0 || e != api.ErrNil {
				t.Fatalf("Bytes(%x, %d): %x (%d)", at, n, b, e)
			}
		}
		if r.Load(at) != api.ErrNil || r.Load(at, 1, 2, 3) != api.ErrNil {
			t.Fatalf("Load(%x)", at)
		}
	}
}
