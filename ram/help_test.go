package ram_test

import (
	"bytes"
	"math"
	"testing"

	"camshaft/api"
	"camshaft/ram"
)

// model is a plain memory: its places are asked one by one, its numbers are sums, so that it shares no way of reckoning with the package.
type model struct {
	cells []byte
}

func newModel(size int) *model { return &model{cells: make([]byte, size)} }

// there: whether n places from at on are there; of none, whether at is a place, or the end.
func (m *model) there(at uint32, n int) bool {
	if n < 0 || int64(at) > int64(len(m.cells)) {
		return false
	}
	for i := 0; i < n; i++ {
		if int64(at)+int64(i) >= int64(len(m.cells)) {
			return false
		}
	}
	return true
}

func (m *model) get(at uint32, size int) (uint32, api.Errno) {
	if size < 0 || size > 4 || !m.there(at, size) {
		return 0, api.ErrBus
	}
	x, worth := int64(0), int64(1)
	for i := 0; i < size; i++ {
		x += worth * int64(m.cells[int(at)+i])
		worth *= 256
	}
	return uint32(x), api.OK
}

func (m *model) put(at, x uint32, size int) api.Errno {
	if size < 0 || size > 4 || !m.there(at, size) {
		return api.ErrBus
	}
	rest := int64(x)
	for i := 0; i < size; i++ {
		m.cells[int(at)+i] = byte(rest % 256)
		rest /= 256
	}
	return api.OK
}

func (m *model) load(at uint32, b []byte) api.Errno {
	if !m.there(at, len(b)) {
		return api.ErrBus
	}
	for i, c := range b {
		m.cells[int(at)+i] = c
	}
	return api.OK
}

func (m *model) bytes(at uint32, n int) ([]byte, api.Errno) {
	if !m.there(at, n) {
		return nil, api.ErrBus
	}
	var b []byte
	for i := 0; i < n; i++ {
		b = append(b, m.cells[int(at)+i])
	}
	return b, api.OK
}

func (m *model) copied() *model {
	c := newModel(len(m.cells))
	for i, x := range m.cells {
		c.cells[i] = x
	}
	return c
}

// series: n bytes, from first on, each 7 more.
func series(first, n int) []byte {
	b := make([]byte, n)
	for i := range b {
		b[i] = byte(first + 7*i)
	}
	return b
}

// filled: a memory of a size whose bytes are a series, and its model.
func filled(t *testing.T, size int) (*ram.Ram, *model) {
	t.Helper()
	r, m := ram.New(size), newModel(size)
	b := series(0x91, size)
	if e := r.Load(0, b...); e != api.OK {
		t.Fatalf("Load of all %d: %d", size, e)
	}
	m.load(0, b)
	same(t, r, m, "filled")
	return r, m
}

// same: the memory has the model's bytes, and no others.
func same(t *testing.T, r *ram.Ram, m *model, when string) {
	t.Helper()
	if r.Size() != len(m.cells) {
		t.Fatalf("%s: Size %d, want %d", when, r.Size(), len(m.cells))
	}
	b, e := r.Bytes(0, len(m.cells))
	if e != api.OK || !bytes.Equal(b, m.cells) {
		t.Fatalf("%s: %x (%d), want %x", when, b, e, m.cells)
	}
}

// places: those of a memory of a size, those just behind them, and those far beyond.
func places(size int) []uint32 {
	var list []uint32
	for at := range size + 7 {
		list = append(list, uint32(at))
	}
	far := []uint32{0x100, 0xffff, 0x10000, 0xfffffe, 0xffffff, 0x1000000, 0x1000001, 0x7fffffff, 0x80000000, 0x80000001}
	list = append(list, far...)
	for back := range uint32(9) {
		list = append(list, math.MaxUint32-back)
	}
	return list
}

// counts: how many bytes may be asked of a memory of a size, and how many mayn't.
func counts(size int) []int {
	var list []int
	for n := -6; n <= size+6; n++ {
		list = append(list, n)
	}
	return append(list, 256, 0x10000, api.MaxMemory, math.MinInt32, math.MaxInt32, math.MinInt, math.MinInt+1, math.MaxInt-1, math.MaxInt)
}

var numbers = []uint32{0, 1, 0xff, 0x100, 258, 0x8081, 0x12345678, 0x80000000, 0xa1b2c3d4, 0xffffffff}
