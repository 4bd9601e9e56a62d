package arch_test

import (
	"math/bits"
	"slices"

	"camshaft/api"
	"camshaft/isa"
)

// model is a plain machine: bytes have places of their own, sums are made without bounds, and what is raised is a panic that the step catches.
type model struct {
	*world
	start uint32
	op    api.Opcode
}

// stop is what is raised.
type stop struct {
	vector int
	with   []uint32
	trap   bool
}

func raise(vector int, with ...uint32) { panic(stop{vector, with, false}) }

// step does one step; it answers the vector.
func (m *model) step(lines uint32) (int, api.Errno) {
	if m.s.Halt != 0 {
		return 0, api.ErrDone
	}
	if n := highest(int(m.s.PSL>>16&31), lines); n > 0 {
		m.enter(stop{vector: 0x100 + 4*n}, uint32(n))
		return 0x100 + 4*n, api.OK
	}
	ahead := m.copy()
	p, raised := caught(m.do)
	if !raised {
		return 0, api.OK
	}
	if !p.trap {
		*m.world = *ahead
	}
	m.enter(p, m.s.PSL>>16&31)
	return p.vector, api.OK
}

// caught: what is raised by what is done, and whether something is.
func caught(do func()) (p stop, raised bool) {
	defer func() {
		x := recover()
		if p, raised = x.(stop); x != nil && !raised {
			panic(x)
		}
	}()
	do()
	return
}

// enter goes to a handler, or stands.
func (m *model) enter(p stop, level uint32) {
	at := uint64(m.s.SCBB + uint32(p.vector))
	if at+4 > uint64(len(m.mem)) {
		m.s.Halt = 3
		return
	}
	to := m.of(int(at))
	if to%4 != 0 {
		m.s.Halt = 4
		return
	}
	end := m.s.R[14]
	if m.user() {
		end = m.s.KSP
	}
	list := append([]uint32{m.s.PSL, m.s.R[15]}, p.with...)
	slices.Reverse(list)
	end -= uint32(4 * len(list))
	if _, raised := caught(func() { m.writeBy(end, bytesOf(list), false) }); raised {
		m.s.Halt = 2
		return
	}
	status := level << 16
	if m.user() {
		status |= 1 << 22
	}
	m.status(status)
	m.s.R[14], m.s.R[15] = end, to
}

func bytesOf(list []uint32) []byte {
	var b []byte
	for _, x := range list {
		for i := range 4 {
			b = append(b, byte(x>>(8*i)))
		}
	}
	return b
}

func (m *model) user() bool { return m.s.PSL&(1<<24) != 0 }

// status: it is another one; the stack is that of who runs.
func (m *model) status(x uint32) {
	was, is := &m.s.KSP, &m.s.KSP
	if m.user() {
		was = &m.s.USP
	}
	m.s.PSL = x
	if m.user() {
		is = &m.s.USP
	}
	if was != is {
		*was, m.s.R[14] = m.s.R[14], *is
	}
}

// entry: where the entry of a page stands; or its fault.
func (m *model) entry(va uint32, info uint32) int {
	base, length := m.s.Tables.P0BR, m.s.Tables.P0LR
	if va >= 1<<31 {
		base, length = m.s.Tables.SBR, m.s.Tables.SLR
	}
	page := va % (1 << 30) / 512
	if va%(1<<31) >= 1<<30 || page >= length {
		raise(0x20, va, info|1)
	}
	at := base + 4*page
	if uint64(at)+4 > uint64(len(m.mem)) {
		raise(4, 0)
	}
	return int(at)
}

// places: where bytes lie, one by one, and where the entries of their pages stand; or a fault.
func (m *model) places(va uint32, n int, user, write bool) (places, marks []int) {
	info := uint32(0)
	if write {
		info = 4
	}
	for i := 0; i < n; {
		k := min(n-i, 512-int(va%512))
		at := uint64(va)
		if m.s.Tables.MAPEN != 0 {
			where := m.entry(va, info)
			x := m.of(where)
			// By protection, what the kernel and the user may do: 1 read, 2 write.
			may := [4][2]uint32{{0, 0}, {3, 0}, {3, 1}, {3, 3}}[x>>27&3]
			asked, who := uint32(1), 0
			if write {
				asked = 2
			}
			if user {
				who = 1
			}
			if may[who]&asked == 0 {
				raise(0x20, va, info)
			}
			if x>>31 == 0 {
				raise(0x24, va, info)
			}
			at = uint64(x%(1<<21))*512 + uint64(va%512)
			marks = append(marks, where)
		}
		if at+uint64(k) > uint64(len(m.mem)) {
			raise(4, 0)
		}
		for j := range k {
			places = append(places, int(at)+j)
		}
		i += k
		va += uint32(k)
	}
	return places, marks
}

func (m *model) read(va uint32, n int) []byte {
	var b []byte
	places, _ := m.places(va, n, m.user(), false)
	for _, at := range places {
		b = append(b, m.mem[at])
	}
	return b
}

func (m *model) write(va uint32, b []byte) { m.writeBy(va, b, m.user()) }

func (m *model) writeBy(va uint32, b []byte, user bool) {
	places, marks := m.places(va, len(b), user, true)
	for _, at := range marks {
		m.mem[at+3] |= 4
	}
	for i, at := range places {
		m.mem[at] = b[i]
	}
}

func (m *model) number(va uint32, size int) uint32 {
	x := uint32(0)
	for i, c := range m.read(va, size) {
		x += uint32(c) << (8 * i)
	}
	return x
}

// next: the instruction's next bytes, one by one, as a number with its sign.
func (m *model) next(n int) uint32 {
	x := uint32(0)
	for i := range n {
		x |= m.number(m.s.R[15], 1) << (8 * i)
		m.s.R[15]++
	}
	return uint32(sign(x, n))
}

// sign: the number with a sign that the lowest bytes of x are; cut: these bytes.
func sign(x uint32, size int) int64 {
	y := int64(cut(x, size))
	if y >= 1<<(8*size-1) {
		y -= 1 << (8 * size)
	}
	return y
}

func cut(x uint32, size int) uint32 { return uint32(uint64(x) % (1 << (8 * size))) }

// arg is an operand: its number, and its register (-1: none), or its address.
type arg struct {
	x    uint32
	reg  int
	at   uint32
	size int
}

func (m *model) operand(o api.Operand) arg {
	if o.Access == 'b' {
		return arg{x: m.next(o.Size), reg: -1, size: o.Size}
	}
	first := m.next(1) & 0xff
	index := -1
	if first>>4 == 4 {
		index = int(first & 15)
		if index == 15 {
			raise(0x1c)
		}
		first = m.next(1) & 0xff
		if first>>4 <= 5 || first == 0x8f {
			raise(0x1c)
		}
	}
	r := int(first & 15)
	a := arg{reg: -1, size: o.Size}
	switch mode := first >> 4; {
	case mode < 4 || first == 0x8f:
		if o.Access != 'r' {
			raise(0x1c)
		}
		if mode < 4 {
			a.x = first
		} else {
			a.x = cut(m.next(o.Size), o.Size)
		}
		return a
	case mode < 8 && r == 15:
		raise(0x1c)
	case mode == 5:
		if o.Access == 'a' {
			raise(0x1c)
		}
		a.reg, a.x = r, cut(m.s.R[r], o.Size)
		return a
	default:
		a.at = m.address(int(mode), r, uint32(o.Size))
	}
	if index >= 0 {
		a.at += uint32(o.Size) * m.s.R[index]
	}
	if o.Access == 'r' || o.Access == 'm' {
		a.x = m.number(a.at, o.Size)
	}
	return a
}

func (m *model) address(mode, r int, size uint32) uint32 {
	at := uint32(0)
	switch mode {
	case 6:
		at = m.s.R[r]
	case 7:
		m.s.R[r] -= size
		at = m.s.R[r]
	case 8:
		at = m.s.R[r]
		m.s.R[r] += size
	case 9:
		if r == 15 {
			return m.next(4)
		}
		at = m.number(m.s.R[r], 4)
		m.s.R[r] += 4
	default:
		d := m.next(1 << ((mode - 10) / 2))
		at = m.s.R[r] + d
		if mode%2 == 1 {
			at = m.number(at, 4)
		}
	}
	return at
}

// to: a number goes where an operand is.
func (m *model) to(a arg, x uint32) {
	if a.reg < 0 {
		m.write(a.at, bytesOf([]uint32{x})[:a.size])
		return
	}
	m.s.R[a.reg] = m.s.R[a.reg] - cut(m.s.R[a.reg], a.size) + cut(x, a.size)
}

// set: the codes are these.
func (m *model) set(n, z, v, c bool) {
	m.s.PSL &^= 15
	for i, on := range []bool{c, v, z, n} {
		if on {
			m.s.PSL |= 1 << i
		}
	}
}

func (m *model) c() bool { return m.s.PSL&1 != 0 }

// signs: N and Z of a number, and V and C.
func (m *model) signs(x uint32, size int, v, c bool) {
	m.set(sign(x, size) < 0, cut(x, size) == 0, v, c)
}

// do does the instruction.
func (m *model) do() {
	m.start = m.s.R[15]
	code := int(m.next(1) & 0xff)
	op, is := isa.Of(code)
	begun := m.s.PSL&(1<<27) != 0
	if !is || begun && !isa.String(op.Class) || m.user() && (code == 0xda || code == 0xdb) {
		raise(0x10)
	}
	m.op = op
	if begun {
		m.s.R[15] = m.start
		m.part(code)
		return
	}
	var a []arg
	for _, o := range op.Ops {
		a = append(a, m.operand(o))
	}
	switch {
	case isa.String(op.Class):
		m.begin(code, a)
	case code >= 0x80 && code < 0xd8 && (code-0x80)%0x20 < 0x18:
		m.reckon((code-0x80)%0x20, a)
	default:
		m.other(code, a)
	}
}

// reckon does what there is of each size, by how far behind the first one it is.
func (m *model) reckon(n int, a []arg) {
	last := a[len(a)-1]
	size := last.size
	x := a[0].x
	switch {
	case n < 14 && n/2 < 4:
		m.sum(n/2, a[1].x, x, 0, last)
	case n < 14:
		y := map[int]uint32{4: a[1].x | x, 5: a[1].x &^ x, 6: a[1].x ^ x}[n/2]
		m.to(last, y)
		m.signs(y, size, false, m.c())
	case n == 14:
		m.sum(1, 0, x, 0, last)
	case n == 16:
		m.to(last, x)
		m.signs(x, size, false, m.c())
	case n == 17:
		m.set(sign(x, size) < sign(a[1].x, size), cut(x, size) == cut(a[1].x, size), false, cut(x, size) < cut(a[1].x, size))
	case n == 18:
		m.to(last, ^x)
		m.signs(^x, size, false, m.c())
	case n == 19:
		m.signs(x&a[1].x, size, false, m.c())
	case n == 20:
		m.to(last, 0)
		m.signs(0, size, false, m.c())
	case n == 21:
		m.signs(x, size, false, false)
	case n == 22:
		m.sum(0, x, 1, 0, last)
	case n == 23:
		m.sum(1, x, 1, 0, last)
	}
}

// sum: a and b (0), a less b (1), a times b (2), a by b (3), and a carry, go to an operand.
func (m *model) sum(what int, a, b, carry uint32, to arg) {
	size := to.size
	x, y := sign(a, size), sign(b, size)
	var z int64
	c, nothing := false, false
	switch what {
	case 0:
		z = x + y + int64(carry)
		c = uint64(cut(a, size))+uint64(cut(b, size))+uint64(carry) >= 1<<(8*size)
	case 1:
		z = x - y - int64(carry)
		c = uint64(cut(a, size)) < uint64(cut(b, size))+uint64(carry)
	case 2:
		z = x * y
	case 3:
		nothing = y == 0
		z = x
		if !nothing {
			z = x / y
		}
	}
	r := cut(uint32(z), size)
	m.to(to, r)
	m.signs(r, size, nothing || sign(r, size) != z, c)
	if nothing {
		panic(stop{0x34, []uint32{2}, true})
	}
}

// jump: PC is more by the last operand.
func (m *model) jump(a []arg, taken bool) {
	if taken {
		m.s.R[15] += a[len(a)-1].x
	}
}

func (m *model) push(x uint32) {
	m.write(m.s.R[14]-4, bytesOf([]uint32{x}))
	m.s.R[14] -= 4
}

// other does what is of one size alone.
func (m *model) other(code int, a []arg) {
	switch code {
	case 0x12, 0x13, 0x14, 0x15, 0x18, 0x19, 0x1a, 0x1b, 0x1c, 0x1d, 0x1e, 0x1f:
		m.jump(a, taken(code, m.s.PSL&15))
	case 0x11, 0x31:
		m.jump(a, true)
	case 0x10, 0x30:
		m.push(m.s.R[15])
		m.jump(a, true)
	case 0x16:
		m.push(m.s.R[15])
		m.s.R[15] = a[0].at
	case 0x17:
		m.s.R[15] = a[0].at
	case 0x05:
		m.s.R[15] = m.number(m.s.R[14], 4)
		m.s.R[14] += 4
	case 0xe8, 0xe9:
		m.jump(a, a[0].x%2 == 0xe9-uint32(code))
	case 0xe0, 0xe1:
		m.jump(a, m.bits(a[0].x, 1, a[1])[0] == (code == 0xe0))
	case 0xd8:
		m.sum(0, a[1].x, a[0].x, m.s.PSL&1, a[1])
	case 0xd9:
		m.sum(1, a[1].x, a[0].x, m.s.PSL&1, a[1])
	case 0xf2, 0xf3:
		was := m.c()
		m.sum(0, a[1].x, 1, 0, a[1])
		m.s.PSL = m.s.PSL &^ 1
		if was {
			m.s.PSL |= 1
		}
		m.jump(a, sign(a[1].x+1, 4) < sign(a[0].x, 4)+int64(code-0xf2))
	case 0xf4, 0xf5:
		was := m.c()
		m.sum(1, a[0].x, 1, 0, a[0])
		m.s.PSL = m.s.PSL &^ 1
		if was {
			m.s.PSL |= 1
		}
		m.jump(a, sign(a[0].x-1, 4) >= int64(code-0xf4))
	case 0x9e, 0xbe, 0xde:
		m.to(a[1], a[0].at)
		m.signs(a[0].at, 4, false, m.c())
	case 0x9f, 0xbf, 0xdf:
		m.push(a[0].at)
		m.signs(a[0].at, 4, false, m.c())
	case 0xdd:
		m.push(a[0].x)
		m.signs(a[0].x, 4, false, m.c())
	case 0x32, 0x33, 0x98, 0x99, 0xf6, 0xf7:
		n := sign(a[0].x, a[0].size)
		m.to(a[1], uint32(n))
		m.signs(uint32(n), a[1].size, sign(uint32(n), a[1].size) != n, false)
	case 0x3c, 0x9a, 0x9b:
		m.to(a[1], a[0].x)
		m.set(false, a[0].x == 0, false, m.c())
	case 0x78:
		m.shift(a)
	case 0x9c:
		x := bits.RotateLeft32(a[1].x, int(sign(a[0].x, 1)))
		m.to(a[2], x)
		m.signs(x, 4, false, m.c())
	case 0xee, 0xef, 0xf0:
		m.field(code, a)
	default:
		m.system(code, a)
	}
}

// shift goes bit by bit.
func (m *model) shift(a []arg) {
	n, x := sign(a[0].x, 1), sign(a[1].x, 4)
	fits := true
	for ; n < 0; n++ {
		x >>= 1
	}
	for ; n > 0; n-- {
		x *= 2
		fits = fits && x == sign(uint32(x), 4)
		x = int64(int32(x))
	}
	m.to(a[2], uint32(x))
	m.signs(uint32(x), 4, !fits, false)
}

// bits: those of a field, one by one; a fault, if it can't be.
func (m *model) bits(position, size uint32, a arg) []bool {
	var list []bool
	if size > 32 {
		raise(0x18)
	}
	if size == 0 {
		return nil
	}
	if a.reg >= 0 {
		if uint64(position)+uint64(size) > 32 {
			raise(0x18)
		}
		for i := range size {
			list = append(list, m.s.R[a.reg]>>(position+i)&1 == 1)
		}
		return list
	}
	at, first, n := span(position, size, a)
	b := m.read(at, n)
	for i := range int(size) {
		list = append(list, b[(first+i)/8]>>((first+i)%8)&1 == 1)
	}
	return list
}

// span: where a field's first byte is, which of its bits is the first one, and how many bytes it has.
func span(position, size uint32, a arg) (uint32, int, int) {
	first := int64(sign(position, 4))
	byte1 := (first - (first%8+8)%8) / 8
	last := first + int64(size) - 1
	byte2 := (last - (last%8+8)%8) / 8
	return a.at + uint32(byte1), int(first - 8*byte1), int(byte2 - byte1 + 1)
}

func (m *model) field(code int, a []arg) {
	if code != 0xf0 {
		x := uint32(0)
		list := m.bits(a[0].x, a[1].x, a[2])
		for i := range 32 {
			on := i < len(list) && list[i]
			if i >= len(list) && len(list) > 0 && code == 0xee {
				on = list[len(list)-1]
			}
			if on {
				x |= 1 << i
			}
		}
		m.to(a[3], x)
		m.signs(x, 4, false, false)
		return
	}
	position, size, to := a[1].x, a[2].x, a[3]
	if len(m.bits(position, size, to)) == 0 {
		return
	}
	if to.reg >= 0 {
		for i := range size {
			m.s.R[to.reg] = m.s.R[to.reg]&^(1<<(position+i)) | a[0].x>>i&1<<(position+i)
		}
		return
	}
	at, first, n := span(position, size, to)
	b := m.read(at, n)
	for i := range int(size) {
		k := first + i
		b[k/8] = b[k/8]&^(1<<(k%8)) | byte(a[0].x>>i&1<<(k%8))
	}
	m.write(at, b)
}

// system: stacks, procedures, the status.
func (m *model) system(code int, a []arg) {
	switch code {
	case 0x00:
		if m.user() {
			raise(0x10)
		}
		m.s.Halt = 1
	case 0x01:
	case 0x02:
		m.back()
	case 0x03:
		raise(0x2c)
	case 0xbc:
		panic(stop{0x40, []uint32{uint32(sign(a[0].x, 2))}, true})
	case 0xdc:
		m.to(a[0], m.s.PSL)
	case 0xb8, 0xb9:
		if a[0].x > 15 {
			raise(0x18)
		}
		m.s.PSL |= a[0].x
		if code == 0xb9 {
			m.s.PSL -= a[0].x
		}
	case 0xbb:
		var list []uint32
		for n := range 15 {
			if a[0].x>>n&1 == 1 {
				list = append(list, m.s.R[n])
			}
		}
		m.s.R[14] -= uint32(4 * len(list))
		m.write(m.s.R[14], bytesOf(list))
	case 0xba:
		m.pop(a[0].x)
	case 0xfb:
		m.call(a)
	case 0x04:
		m.ret()
	case 0xda, 0xdb:
		m.processor(code, a)
	default:
		panic("no code")
	}
}

func (m *model) pop(mask uint32) {
	count := bits.OnesCount32(mask & 0x7fff)
	b := m.read(m.s.R[14], 4*count)
	m.s.R[14] += uint32(4 * count)
	for n := range 15 {
		if mask>>n&1 == 1 {
			m.s.R[n] = numberOf(b)
			b = b[4:]
		}
	}
}

func numberOf(b []byte) uint32 {
	return uint32(b[0]) | uint32(b[1])<<8 | uint32(b[2])<<16 | uint32(b[3])<<24
}

func (m *model) back() {
	b := m.read(m.s.R[14], 8)
	pc, to := numberOf(b), numberOf(b[4:])
	user, level := to>>24&1 == 1, to>>16&31
	good := to&^0x095f000f == 0 && (!user || level == 0 && to>>22&1 == 1)
	if !good || m.user() && !user || level > m.s.PSL>>16&31 {
		raise(0x18)
	}
	m.s.R[14] += 8
	m.status(to)
	m.s.R[15] = pc
}

func (m *model) call(a []arg) {
	mask := m.number(a[1].at, 2)
	if mask>>12&3 != 0 {
		raise(0x18)
	}
	ap := m.s.R[14] - 4
	list := []uint32{0, ap%4*(1<<30) + 1<<29 + mask%(1<<12)*(1<<16), m.s.R[12], m.s.R[13], m.s.R[15]}
	for n := range 12 {
		if mask>>n&1 == 1 {
			list = append(list, m.s.R[n])
		}
	}
	fp := ap/4*4 - uint32(4*len(list))
	m.places(ap, 4, m.user(), true)
	m.places(fp, 4*len(list), m.user(), true)
	m.write(ap, bytesOf([]uint32{a[0].x}))
	m.write(fp, bytesOf(list))
	m.s.R[12], m.s.R[13], m.s.R[14], m.s.R[15] = ap, fp, fp, a[1].at+2
	m.s.PSL &^= 15
}

func (m *model) ret() {
	at := m.s.R[13]
	b := m.read(at, 20)
	w := numberOf(b[4:])
	if w&0x1000fff0 != 0 {
		raise(0x18)
	}
	at += 20
	mask := w >> 16 & 0xfff
	saved := m.read(at, 4*bits.OnesCount32(mask))
	at += uint32(len(saved)) + w>>30
	if w>>29&1 == 1 {
		at += 4 + 4*(m.number(at, 4)%256)
	}
	for n := range 12 {
		if mask>>n&1 == 1 {
			m.s.R[n] = numberOf(saved)
			saved = saved[4:]
		}
	}
	m.s.R[12], m.s.R[13], m.s.R[15], m.s.R[14] = numberOf(b[8:]), numberOf(b[12:]), numberOf(b[16:]), at
	m.s.PSL = m.s.PSL&^15 | w&15
}

func (m *model) processor(code int, a []arg) {
	n := a[0].x
	if code == 0xda {
		n = a[1].x
	}
	t := &m.s.Tables
	at := map[uint32]*uint32{0: &m.s.KSP, 3: &m.s.USP, 8: &t.P0BR, 9: &t.P0LR, 12: &t.SBR, 13: &t.SLR, 17: &m.s.SCBB, 18: &m.s.PSL, 56: &t.MAPEN}[n]
	if n == 0 {
		at = &m.s.R[14]
	}
	x := a[0].x
	switch {
	case code == 0xda && n == 18:
		m.s.PSL = m.s.PSL&^(31<<16) | x%32<<16
	case code == 0xda && at != nil:
		*at = x
	case code == 0xda && (n == 57 || n == 58):
	case at == nil:
		raise(0x18)
	default:
		x = *at
		if n == 18 {
			x = x >> 16 % 32
		}
		m.to(a[1], x)
	}
	m.signs(x, 4, false, m.c())
}

// begin begins a string instruction.
func (m *model) begin(code int, a []arg) {
	r := &m.s.R
	first := (r[15] - m.start) << 24
	within := func(n, from, to uint32) uint32 {
		if from != to && to-from < n {
			return 1
		}
		return 0
	}
	switch code {
	case 0x28:
		r[0], r[1], r[2], r[3], r[4], r[5] = first+a[0].x, a[1].at, a[0].x, a[2].at, within(a[0].x, a[1].at, a[2].at), 0
	case 0x2c:
		n := min(a[0].x, a[3].x)
		r[0], r[1], r[2], r[3], r[4], r[5] = first+a[2].x<<16+n, a[1].at, a[3].x<<16+a[0].x, a[4].at, within(n, a[1].at, a[4].at), a[3].x-n
	case 0x29:
		r[0], r[1], r[2], r[3] = first+a[0].x, a[1].at, 0, a[2].at
	case 0x2d:
		r[0], r[1], r[2], r[3] = first+a[2].x<<16+a[0].x, a[1].at, a[3].x, a[4].at
	case 0x3a, 0x3b:
		r[0], r[1] = first+a[0].x<<16+a[1].x, a[2].at
	}
	r[15] = m.start
	m.s.PSL |= 1 << 27
}

// over: PC is behind the instruction, FPD isn't set any more.
func (m *model) over(first uint32, n, z, c bool) {
	m.s.R[15] = m.start + first>>24
	m.s.PSL &^= 1 << 27
	m.set(n, z, false, c)
}

// part goes on with a string instruction.
func (m *model) part(code int) {
	r := &m.s.R
	first, rem, char := r[0], r[0]%65536, byte(r[0]>>16)
	switch code {
	case 0x28:
		total := r[2] % 65536
		if rem > total {
			raise(0x18)
		}
		rem -= m.move(rem, total)
		if rem == 0 {
			r[0], r[1], r[2], r[3], r[4], r[5] = 0, r[1]+total, 0, r[3]+total, 0, 0
			m.over(first, false, true, false)
		}
	case 0x2c:
		from, to := r[2]%65536, r[2]/65536
		n := min(from, to)
		if rem > n || r[5] > to-n {
			raise(0x18)
		}
		if rem > 0 {
			rem -= m.move(rem, n)
		} else if k := min(8, r[5]); k > 0 {
			m.write(r[3]+to-r[5], slices.Repeat([]byte{char}, int(k)))
			r[5] -= k
		}
		if rem == 0 && r[5] == 0 {
			r[0], r[1], r[2], r[3], r[4] = from-n, r[1]+n, 0, r[3]+to, 0
			m.over(first, int16(from) < int16(to), from == to, from < to)
		}
	case 0x29, 0x2d:
		m.compare(code, first, rem, char)
	case 0x3a, 0x3b:
		b := m.read(r[1], int(min(rem, 8)))
		k := 0
		for k < len(b) && (b[k] == char) == (code == 0x3b) {
			k++
		}
		r[1] += uint32(k)
		r[0] -= uint32(k)
		if k < len(b) || r[0]%65536 == 0 {
			r[0] %= 65536
			m.over(first, false, r[0] == 0, false)
		}
	}
}

// move moves bytes of n, of which rem are left; it answers how many.
func (m *model) move(rem, n uint32) uint32 {
	r := &m.s.R
	k := min(rem, 8)
	at := n - rem
	if r[4]%2 == 1 {
		at = rem - k
	}
	m.write(r[3]+at, m.read(r[1]+at, int(k)))
	r[0] -= k
	return k
}

func (m *model) compare(code int, first, rem uint32, char byte) {
	r := &m.s.R
	other := rem
	if code == 0x2d {
		other = r[2] % 65536
	}
	a := m.read(r[1], int(min(rem, 8)))
	b := m.read(r[3], int(min(other, 8)))
	for len(a) > 0 || len(b) > 0 {
		x, y := char, char
		if len(a) > 0 {
			x = a[0]
		}
		if len(b) > 0 {
			y = b[0]
		}
		if x != y {
			r[0], r[2] = rem, other
			m.over(first, int8(x) < int8(y), false, x < y)
			return
		}
		if len(a) > 0 {
			a, rem, r[0], r[1] = a[1:], rem-1, r[0]-1, r[1]+1
		}
		if len(b) > 0 {
			b, other, r[3] = b[1:], other-1, r[3]+1
			if code == 0x2d {
				r[2]--
			}
		}
	}
	if rem == 0 && other == 0 {
		r[0], r[2] = 0, 0
		m.over(first, false, true, false)
	}
}
