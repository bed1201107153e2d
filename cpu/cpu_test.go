package cpu

import (
	"bytes"
	"dowel/api"
	"dowel/mem"
	"dowel/zone"
	"math"
	"slices"
	"testing"
)

// begin is where most instructions are put: inside the code of the fourth zone of sample.
const begin = 600

// sample are zones of a memory of 1024 bytes: from the stack's end on; with cells; one that touches it, with nothing that is only read; one with much code; one at the memory's end.
func sample() []zone.Zone {
	return []zone.Zone{
		{Base: 272, Data: 272, Read: 276, End: 288},
		{Base: 300, Data: 320, Read: 332, End: 348, Ptrs: []int{300, 316}, Procs: []int{308}},
		{Base: 348, Data: 360, Read: 360, End: 400, Ptrs: []int{348}, Procs: []int{356}},
		{Base: 400, Data: 408, Read: 416, End: 1000},
		{Base: 1000, Data: 1012, Read: 1016, End: 1024, Ptrs: []int{1008}, Procs: []int{1000}},
	}
}

// plain is what a step is done to, as the chapters' words have it.
type plain struct {
	r     [16]int32
	at    int
	bytes []byte
	zones []zone.Zone
}

func (p plain) clone() plain {
	p.bytes = slices.Clone(p.bytes)
	return p
}

func (p plain) has(at, count int, from, to func(zone.Zone) int) bool {
	return slices.ContainsFunc(p.zones, func(x zone.Zone) bool { return at >= from(x) && at <= to(x)-count })
}

func base(x zone.Zone) int { return x.Base }
func data(x zone.Zone) int { return x.Data }
func read(x zone.Zone) int { return x.Read }
func end(x zone.Zone) int  { return x.End }

func (p plain) canLoad(at, count int) bool {
	return at >= 16 && at+count <= 272 || p.has(at, count, base, read)
}

func (p plain) canStore(at, count int) bool {
	return at >= 16 && at+count <= 272 || p.has(at, count, base, data)
}

func (p plain) canRun(at int) bool { return at&3 == 0 && p.has(at, 4, read, end) }

func (p plain) cell(at int) int {
	for _, x := range p.zones {
		if slices.Contains(x.Ptrs, at&^3) {
			return 1
		}
		if slices.Contains(x.Procs, at&^3) {
			return 2
		}
	}
	return 0
}

func (p plain) fits(kind, value int) bool {
	if kind == 0 || value == 0 {
		return true
	}
	return kind == 1 && p.has(value, 1, base, read) || kind == 2 && p.canRun(value)
}

func (p plain) word(at int) uint32 {
	var w uint32
	for n := 3; n >= 0; n-- {
		w = w*256 + uint32(p.bytes[at+n])
	}
	return w
}

func (p plain) setWord(at int, w uint32) {
	for n := range 4 {
		p.bytes[at+n] = byte(w)
		w /= 256
	}
}

// step does a step, and tells its trap.
func (p *plain) step() int {
	if !p.canRun(p.at) || p.at > len(p.bytes)-4 {
		return 5
	}
	w := p.word(p.at)
	op, a, b, n := int(w>>26), int(w>>22&15), int(w>>18&15), int(w&(1<<18-1))
	if n >= 1<<17 {
		n -= 1 << 18
	}
	if op < 1 || op > 21 || op >= 2 && op <= 10 && (n < 0 || n > 15) {
		return 1
	}
	own := p.at
	p.at = own + 4
	var trap int
	switch {
	case op == 1:
		p.r[a] = int32(n)
	case op <= 10:
		trap = p.reckon(op, a, b, n)
	case op == 11:
		p.r[a] = int32(int64(p.r[b]) + int64(n))
	case op <= 15:
		trap = p.touch(op, a, int((int64(p.r[b])+int64(n)+1<<34)%(1<<32)))
	case op == 16 && p.r[a] == p.r[b], op == 17 && p.r[a] != p.r[b], op == 18 && p.r[a] < p.r[b], op == 19:
		p.at = own + 4 + 4*n
	case op == 20:
		p.r[a] = int32(own + 4)
		p.at = own + 4 + 4*n
	case op == 21:
		p.at = (int(p.r[a]) + 1<<32) % (1 << 32)
	}
	if trap != 0 {
		p.at = own
	}
	return trap
}

// reckon does Add to Shr; shifts are products and quotients here.
func (p *plain) reckon(op, a, b, n int) int {
	x, y := int64(p.r[b]), int64(p.r[n])
	power := int64(1) << (uint32(y) % 32)
	switch op {
	case 2:
		x += y
	case 3:
		x -= y
	case 4:
		x *= y
	case 5:
		if y == 0 {
			return 4
		}
		x /= y
	case 6:
		x &= y
	case 7:
		x |= y
	case 8:
		x ^= y
	case 9:
		x *= power
	case 10:
		x = int64(math.Floor(float64(x) / float64(power)))
	}
	p.r[a] = int32(x)
	return 0
}

// touch does Load to StorB.
func (p *plain) touch(op, a, at int) int {
	count := 4
	if op >= 14 {
		count = 1
	}
	stores := op == 13 || op == 15
	if count == 4 && at%4 != 0 {
		return 3
	}
	if stores && !p.canStore(at, count) || !stores && !p.canLoad(at, count) {
		return 2
	}
	value := int(uint32(p.r[a]))
	if op == 13 && !p.fits(p.cell(at), value) || op == 15 && p.cell(at) != 0 {
		return 6
	}
	if at+count > len(p.bytes) {
		return 2
	}
	switch op {
	case 12:
		p.r[a] = int32(p.word(at))
	case 13:
		p.setWord(at, uint32(value))
	case 14:
		p.r[a] = int32(p.bytes[at])
	case 15:
		p.bytes[at] = byte(value % 256)
	}
	return 0
}

// rig is a machine, with a plain one beside it that is as it is.
type rig struct {
	plain
	s *State
	m *mem.Memory
	z *zone.Zones
}

func rigged(t *testing.T, size int, l []zone.Zone) *rig {
	t.Helper()
	m, err := mem.New(size)
	if err != nil {
		t.Fatal(err)
	}
	z := zone.New()
	for _, x := range l {
		if err := z.Add(x); err != nil {
			t.Fatalf("Add(%v): %v", x, err)
		}
	}
	g := &rig{plain: plain{bytes: make([]byte, size), zones: l}, s: &State{}, m: m, z: z}
	for at := range size {
		g.setByte(at, byte(at*37+101))
	}
	for _, x := range l {
		for _, cell := range slices.Concat(x.Ptrs, x.Procs) {
			if cell < size {
				g.put(cell, 0)
			}
		}
	}
	return g
}

// fresh is one with the sample's zones.
func fresh(t *testing.T) *rig {
	t.Helper()
	return rigged(t, 1024, sample())
}

func (g *rig) setByte(at int, b byte) {
	g.bytes[at] = b
	g.m.SetByte(at, b)
}

func (g *rig) put(at int, w uint32) {
	g.setWord(at, w)
	g.m.SetWord(at, w)
}

// code is an instruction's word, even if it may not be.
func code(op, a, b, n int) uint32 {
	return uint32(op)<<26 | uint32(a)<<22 | uint32(b)<<18 | uint32(n)&(1<<18-1)
}

// check does a step, asks that all is as the plain one has it, and tells the trap.
func (g *rig) check(t *testing.T) int {
	t.Helper()
	g.s.R, g.s.At = g.r, g.at
	before := g.clone()
	want := g.step()
	got := Step(g.s, g.m, g.z)
	if got != want {
		t.Fatalf("step at %d, registers %v, is %d, want %d", before.at, before.r, got, want)
	}
	if want != 0 && (g.r != before.r || g.at != before.at || !bytes.Equal(g.bytes, before.bytes)) {
		t.Fatal("the plain one is changed with a trap")
	}
	g.checkSame(t, before)
	return got
}

func (g *rig) checkSame(t *testing.T, before plain) {
	t.Helper()
	if g.s.R != g.r || g.s.At != g.at {
		t.Fatalf("step at %d, registers %v: then %v at %d, want %v at %d", before.at, before.r, g.s.R, g.s.At, g.r, g.at)
	}
	if b := g.m.Bytes(0, g.m.Size()); !bytes.Equal(b, g.bytes) {
		t.Fatalf("step at %d, registers %v: the memory is not as it should be", before.at, before.r)
	}
}

// do puts an instruction to begin, and does it there.
func (g *rig) do(t *testing.T, op, a, b, n int) int {
	t.Helper()
	g.put(begin, code(op, a, b, n))
	g.at = begin
	return g.check(t)
}

// checkDone does an instruction that is to trap, or not, and to go on four more.
func (g *rig) checkDone(t *testing.T, want, op, a, b, n int) {
	t.Helper()
	if trap := g.do(t, op, a, b, n); trap != want {
		t.Fatalf("operation %d, %d, %d, %d of %v: trap %d, want %d", op, a, b, n, g.r, trap, want)
	}
	at := begin + 4
	if want != 0 {
		at = begin
	}
	if g.s.At != at {
		t.Fatalf("operation %d, %d, %d, %d: then at %d, want %d", op, a, b, n, g.s.At, at)
	}
}

func (g *rig) checkReg(t *testing.T, reg int, want int32) {
	t.Helper()
	if g.s.R[reg] != want {
		t.Fatalf("register %d is %d, want %d", reg, g.s.R[reg], want)
	}
}

func (g *rig) checkWord(t *testing.T, at int, want uint32) {
	t.Helper()
	if w, trap := g.m.Word(at); w != want || trap != 0 {
		t.Fatalf("the word at %d is %#x, trap %d, want %#x", at, w, trap, want)
	}
}

// aim splits a place into a register and a number, and tells the register.
func aim(place int64, n int) int32 { return int32(place - int64(n)) }

// numbers are those that an instruction may have, at their edges.
func numbers() []int {
	return []int{0, 1, 2, 3, 4, 5, 15, 16, 17, 100, 131068, 131070, 131071, -1, -2, -3, -4, -5, -16, -100, -131069, -131071, -131072}
}

// values are those that registers have here: edges of 32 bits, of zones, and places of code.
func values() []int32 {
	return []int32{
		0, 1, 2, 3, 4, 7, 15, 16, 31, 32, 33, 127, 128, 255, 256, 268, 271, 272, 300, 308, 316, 320, 332, 347, 348, 356, 360, 600, 1020, 1023, 1024, 65535, 65536, 65836, 131071,
		1 << 30, math.MaxInt32 - 1, math.MaxInt32, math.MinInt32, math.MinInt32 + 1, -65536, -256, -255, -128, -32, -16, -5, -4, -3, -2, -1,
	}
}

// rolled are numbers that seem random, but are the same each time.
func rolled(seed uint64) func(int) int {
	return func(n int) int {
		seed = seed*6364136223846793005 + 1442695040888963407
		return int(seed >> 33 % uint64(n))
	}
}

func TestP7_1Example(t *testing.T) {
	g := fresh(t)
	g.checkDone(t, 0, api.Set, 3, 0, 7)
	g.checkReg(t, 3, 7)
}

func TestP7_1Set(t *testing.T) {
	for a := range 16 {
		for _, n := range numbers() {
			g := fresh(t)
			g.r[a] = 12345
			// What B is plays no part.
			g.checkDone(t, 0, api.Set, a, (a+n)&15, n)
			g.checkReg(t, a, int32(n))
		}
	}
}

func TestP7_1More(t *testing.T) {
	for _, c := range []struct {
		b    int32
		n    int
		want int32
	}{
		{5, 7, 12}, {5, -7, -2}, {0, 131071, 131071}, {0, -131072, -131072}, {-1, 1, 0},
		{math.MaxInt32, 1, math.MinInt32}, {math.MinInt32, -1, math.MaxInt32},
		{math.MaxInt32, 131071, math.MinInt32 + 131070}, {math.MinInt32, -131072, math.MaxInt32 - 131071},
	} {
		g := fresh(t)
		g.r[4], g.r[9] = c.b, 77
		g.checkDone(t, 0, api.More, 9, 4, c.n)
		g.checkReg(t, 9, c.want)
		g.checkReg(t, 4, c.b)
		g.checkDone(t, 0, api.More, 4, 4, c.n)
		g.checkReg(t, 4, c.want)
	}
}

func TestP7_1Reckons(t *testing.T) {
	for _, c := range []struct {
		op      int
		x, y, v int32
	}{
		{api.Add, 7, 5, 12}, {api.Add, math.MaxInt32, 1, math.MinInt32}, {api.Sub, 5, 7, -2}, {api.Sub, math.MinInt32, 1, math.MaxInt32},
		{api.Mul, -3, 5, -15}, {api.Mul, 65536, 65536, 0}, {api.Div, -7, 2, -3}, {api.Div, math.MinInt32, -1, math.MinInt32},
		{api.And, 12, 10, 8}, {api.Or, 12, 10, 14}, {api.Xor, 12, 10, 6}, {api.Shl, 3, 4, 48}, {api.Shl, 3, 33, 6},
		{api.Shr, -16, 2, -4}, {api.Shr, -16, 34, -4}, {api.Shr, 16, -31, 8},
	} {
		g := fresh(t)
		g.r[2], g.r[5], g.r[15] = c.x, c.y, 99
		g.checkDone(t, 0, c.op, 15, 2, 5)
		g.checkReg(t, 15, c.v)
		g.checkReg(t, 2, c.x)
		g.checkReg(t, 5, c.y)
		// Its own registers may be those that it asks for.
		g.checkDone(t, 0, c.op, 2, 2, 5)
		g.checkReg(t, 2, c.v)
		g.r[2] = c.x
		g.checkDone(t, 0, c.op, 5, 2, 5)
		g.checkReg(t, 5, c.v)
	}
}

func TestP7_1DivideByZeroTraps(t *testing.T) {
	for _, x := range values() {
		g := fresh(t)
		g.r[1], g.r[3] = x, 8
		g.checkDone(t, api.TrapDivide, api.Div, 3, 1, 0)
		g.checkDone(t, api.TrapDivide, api.Div, 1, 1, 0)
		g.checkDone(t, api.TrapDivide, api.Div, 0, 1, 0)
	}
}

// Each operation of 6 bits, each kind of registers, each edge of a number.
func TestP7_1EachInstruction(t *testing.T) {
	g := fresh(t)
	roll := rolled(7)
	l := values()
	for op := range 64 {
		for _, regs := range [][2]int{{0, 0}, {0, 15}, {15, 0}, {3, 5}, {5, 3}, {7, 7}, {15, 15}, {1, 2}} {
			for _, n := range numbers() {
				for range 12 {
					for reg := range g.r {
						g.r[reg] = l[roll(len(l))]
					}
					g.do(t, op, regs[0], regs[1], n)
				}
			}
		}
	}
}

func TestP7_1EachPairOfValues(t *testing.T) {
	g := fresh(t)
	for op := api.Add; op <= api.Jump; op++ {
		for _, x := range values() {
			for _, y := range values() {
				g.r[1], g.r[2], g.r[3] = x, y, 5
				g.do(t, op, 1, 2, 3)
				g.r[1], g.r[2], g.r[3] = 5, x, y
				g.do(t, op, 1, 2, 3)
			}
		}
	}
}

func TestP7_1WhereInstructionsCanBe(t *testing.T) {
	for at, want := range map[int]int{
		0: 5, 4: 5, 16: 5, 100: 5, 268: 5, // the stack
		272: 5, 276: 0, 277: 5, 278: 5, 279: 5, 280: 0, 284: 0, 288: 5, 292: 5, // its Read to its End; no zone
		300: 5, 308: 5, 316: 5, // data
		320: 5, 324: 5, 328: 5, // what is only read
		332: 0, 333: 5, 334: 5, 335: 5, 336: 0, 344: 0, 345: 5, 347: 5, // code
		348: 5, 360: 0, 396: 0, 400: 5, 412: 5, 416: 0, 996: 0, 1000: 5, 1016: 0, 1020: 0, 1021: 5, 1024: 5, 1028: 5,
		-1: 5, -4: 5, -8: 5, -276: 5, -332: 5, -1 << 32: 5, -1<<32 + 332: 5, 1<<32 + 332: 5, 65536 + 332: 5,
		math.MinInt: 5, math.MinInt + 4: 5, math.MinInt32: 5, math.MaxInt32: 5, math.MaxInt: 5, math.MaxInt - 3: 5,
	} {
		g := fresh(t)
		for place := 0; place < 1024; place += 4 {
			g.put(place, code(api.Set, 3, 0, 7))
		}
		g.at = at
		if trap := g.check(t); trap != want {
			t.Fatalf("a step at %d: trap %d, want %d", at, trap, want)
		}
		if want == 0 {
			g.checkReg(t, 3, 7)
		}
	}
}

func TestP7_1EachPlaceOfAnInstruction(t *testing.T) {
	g := fresh(t)
	for place := 0; place < 1024; place += 4 {
		g.put(place, code(api.Set, 3, 0, 7))
	}
	for at := -20; at < 1100; at++ {
		g.at = at
		g.check(t)
	}
}

// A zone can end where a memory of the greatest size does.
func TestP7_1AtTheEndOfTheGreatestMemory(t *testing.T) {
	g := rigged(t, 65536, []zone.Zone{{Base: 65500, Data: 65508, Read: 65516, End: 65536, Ptrs: []int{65504}}})
	for at := 65516; at < 65536; at += 4 {
		g.put(at, code(api.Jump, 0, 0, -1))
	}
	for at := 65490; at < 65545; at++ {
		g.at = at
		g.check(t)
	}
	g.put(65532, code(api.Set, 1, 0, 1))
	g.at = 65532
	if trap := g.check(t); trap != 0 || g.s.At != 65536 {
		t.Fatalf("trap %d, then at %d, want 0 and 65536", trap, g.s.At)
	}
	if trap := g.check(t); trap != api.TrapJump {
		t.Fatalf("a step at 65536: trap %d, want TrapJump", trap)
	}
}

func TestP7_1NoInstructionTraps(t *testing.T) {
	words := []uint32{0, 1, 1<<26 - 1, math.MaxUint32, code(22, 0, 0, 0), code(63, 15, 15, -1), code(32+api.Set, 3, 0, 7)}
	for op := api.Add; op <= api.Shr; op++ {
		words = append(words, code(op, 0, 0, 16), code(op, 15, 15, 131071), code(op, 1, 2, -1), code(op, 1, 2, -131072))
	}
	for _, w := range words {
		g := fresh(t)
		for reg := range g.r {
			g.r[reg] = 1
		}
		for _, at := range []int{276, 332, begin, 1020} {
			g.put(at, w)
			g.at = at
			if trap := g.check(t); trap != api.TrapCode {
				t.Fatalf("the word %#x at %d: trap %d, want TrapCode", w, at, trap)
			}
		}
		for _, at := range []int{16, 272, 288, 312, 320} {
			g.put(at, w)
			g.at = at
			if trap := g.check(t); trap != api.TrapJump {
				t.Fatalf("the word %#x at %d: trap %d, want TrapJump ahead of TrapCode", w, at, trap)
			}
		}
	}
}

// Each place, told by a register and a number in several ways.
func TestP7_1EachPlaceOfLoadAndStore(t *testing.T) {
	g := fresh(t)
	for op := api.Load; op <= api.StorB; op++ {
		for place := int64(-8); place < 1040; place++ {
			for _, n := range []int{0, 3, -1, 131071, -131072} {
				g.r[6], g.r[11] = 0x8182, aim(place, n)
				g.do(t, op, 6, 11, n)
			}
		}
	}
}

func TestP7_1PlaceIsOfTwo(t *testing.T) {
	for _, c := range []struct {
		b    int32
		n    int
		trap int
	}{
		{100, 0, 0}, {96, 4, 0}, {104, -4, 0}, {131172, -131072, 0}, {-130971, 131071, 0},
		{-1, 101, 0}, {-4, 104, 0}, // the sum passes 2^32
		{100, -100, api.TrapRange}, {100, -104, api.TrapRange}, // 0, and 2^32 - 4
		{math.MinInt32, 100, api.TrapRange}, {math.MinInt32 + 99, 1, api.TrapRange}, // 2^31 and 100: that bit isn't lost
		{math.MaxInt32, 101, api.TrapRange}, {-100, 0, api.TrapRange}, {65636, 0, api.TrapRange},
		{-1, 0, api.TrapAlign}, {100, 1, api.TrapAlign}, {97, 4, api.TrapAlign}, {99, 3, api.TrapAlign},
	} {
		for op := api.Load; op <= api.StorB; op++ {
			g := fresh(t)
			want := c.trap
			if op >= api.LoadB && want == api.TrapAlign {
				want = 0
				if c.b < 0 {
					want = api.TrapRange
				}
			}
			g.r[1], g.r[2] = 5, c.b
			g.checkDone(t, want, op, 1, 2, c.n)
		}
	}
}

func TestP7_1PlaceThatWrapsRound(t *testing.T) {
	g := fresh(t)
	g.put(100, 0x89ABCDEF)
	g.r[2] = -1
	g.checkDone(t, 0, api.Load, 1, 2, 101)
	g.checkReg(t, 1, -0x76543211)
	g.r[1] = 0x01020304
	g.checkDone(t, 0, api.Store, 1, 2, 105)
	g.checkWord(t, 104, 0x01020304)
	g.r[2] = math.MinInt32
	g.checkDone(t, api.TrapRange, api.Load, 1, 2, 100)
	g.checkDone(t, api.TrapRange, api.Store, 1, 2, 100)
}

func TestP7_1Load(t *testing.T) {
	for _, w := range []uint32{0, 1, 0x7FFFFFFF, 0x80000000, 0xFFFFFFFF, 0x04030201} {
		for _, at := range []int{16, 268, 272, 300, 308, 316, 320, 328, 356, 400, 412, 1000, 1012} {
			g := fresh(t)
			g.put(at, w)
			g.r[2] = int32(at) - 8
			g.checkDone(t, 0, api.Load, 7, 2, 8)
			g.checkReg(t, 7, int32(w))
			g.checkReg(t, 2, int32(at)-8)
			g.checkDone(t, 0, api.Load, 2, 2, 8)
			g.checkReg(t, 2, int32(w))
		}
	}
}

// Code, what is below the stack, and what lies between zones can't be loaded, nor what is odd.
func TestP7_1LoadTraps(t *testing.T) {
	for _, at := range []int{0, 4, 12, 276, 284, 288, 296, 332, 344, 360, 396, 416, begin, 996, 1016, 1020, 1024, 65536, 65836} {
		g := fresh(t)
		g.r[1], g.r[2] = 9, int32(at)
		g.checkDone(t, api.TrapRange, api.Load, 1, 2, 0)
		g.checkDone(t, api.TrapRange, api.LoadB, 1, 2, 0)
		g.checkDone(t, api.TrapRange, api.LoadB, 1, 2, 3)
		for n := 1; n < 4; n++ {
			g.checkDone(t, api.TrapAlign, api.Load, 1, 2, n)
			g.checkDone(t, api.TrapAlign, api.Store, 1, 2, n)
		}
	}
	// A word across Data and Read, Read and End, the stack's end.
	for _, at := range []int{320, 332, 272, 16, 300, 348, 360} {
		for n := -3; n < 4; n++ {
			if n != 0 {
				g := fresh(t)
				g.r[2] = int32(at)
				g.checkDone(t, api.TrapAlign, api.Load, 1, 2, n)
				g.checkDone(t, api.TrapAlign, api.Store, 1, 2, n)
			}
		}
	}
}

func TestP7_1Store(t *testing.T) {
	for _, v := range values() {
		for _, at := range []int{16, 20, 264, 268, 304, 312, 352, 400, 404, 1004} {
			g := fresh(t)
			g.r[2], g.r[7] = int32(at)+8, v
			g.checkDone(t, 0, api.Store, 7, 2, -8)
			g.checkWord(t, at, uint32(v))
			g.checkReg(t, 7, v)
			g.r[2] = int32(at)
			g.checkDone(t, 0, api.Store, 2, 2, 0)
			g.checkWord(t, at, uint32(at))
		}
	}
}

func TestP7_1StoreTraps(t *testing.T) {
	for _, at := range []int{0, 12, 272, 276, 284, 288, 296, 320, 324, 328, 332, 344, 360, 396, 408, 412, 416, begin, 996, 1012, 1016, 1020, 1024, 65536} {
		for _, v := range values() {
			g := fresh(t)
			g.r[1], g.r[2] = v, int32(at)
			g.checkDone(t, api.TrapRange, api.Store, 1, 2, 0)
			for n := range 4 {
				g.checkDone(t, api.TrapRange, api.StorB, 1, 2, n)
			}
		}
	}
}

func TestP7_1LoadByte(t *testing.T) {
	for b := range 256 {
		for _, at := range []int{16, 17, 18, 19, 271, 272, 275, 300, 303, 319, 320, 331, 359, 1015} {
			g := fresh(t)
			g.setByte(at, byte(b))
			g.r[2], g.r[7] = int32(at)+1, -1
			g.checkDone(t, 0, api.LoadB, 7, 2, -1)
			g.checkReg(t, 7, int32(b))
		}
	}
	for _, at := range []int{15, 276, 299, 332, 360, 1016, 1023, 1024} {
		g := fresh(t)
		g.r[2], g.r[7] = int32(at), -1
		g.checkDone(t, api.TrapRange, api.LoadB, 7, 2, 0)
	}
}

func TestP7_1StoreByte(t *testing.T) {
	for _, v := range values() {
		for _, at := range []int{16, 17, 18, 19, 268, 271, 304, 305, 306, 307, 312, 315, 352, 355, 400, 407, 1004, 1007} {
			g := fresh(t)
			g.put(at&^3, 0x5A5A5A5A)
			g.r[2], g.r[7] = int32(at), v
			g.checkDone(t, 0, api.StorB, 7, 2, 0)
			shift := at % 4 * 8
			g.checkWord(t, at&^3, 0x5A5A5A5A&^(255<<shift)|uint32(byte(v))<<shift)
		}
	}
	for _, at := range []int{15, 272, 299, 320, 332, 360, 408, 1012, 1023, 1024} {
		g := fresh(t)
		g.r[2], g.r[7] = int32(at), 1
		g.checkDone(t, api.TrapRange, api.StorB, 7, 2, 0)
	}
}

func TestP7_1StoreToCellThatPoints(t *testing.T) {
	for value, want := range map[int32]int{
		0: 0, 300: 0, 299: 6, 301: 0, 319: 0, 320: 0, 331: 0, 332: 6, 347: 6, // its own zone's
		271: 6, 272: 0, 275: 0, 276: 6, 288: 6, 348: 0, 359: 0, 360: 6, 399: 6, 400: 0, 415: 0, 416: 6, 999: 6, 1000: 0, 1015: 0, 1016: 6, // other ones'
		1: 6, 16: 6, 100: 6, -1: 6, -300: 6, math.MinInt32: 6, math.MinInt32 + 300: 6, math.MaxInt32: 6, 1024: 6, 65536: 6, 65836: 6,
	} {
		for _, cell := range []int{300, 316, 348, 1008} {
			for _, old := range []uint32{0, 304} {
				g := fresh(t)
				g.put(cell, old)
				g.r[1], g.r[2] = value, int32(cell)
				g.checkDone(t, want, api.Store, 1, 2, 0)
				if want != 0 {
					g.checkWord(t, cell, old)
				} else {
					g.checkWord(t, cell, uint32(value))
				}
			}
		}
	}
}

func TestP7_1StoreToCellThatTellsCode(t *testing.T) {
	for value, want := range map[int32]int{
		0: 0, 328: 6, 332: 0, 333: 6, 334: 6, 335: 6, 336: 0, 344: 0, 347: 6, 348: 6, // its own zone's
		272: 6, 276: 0, 284: 0, 285: 6, 288: 6, 356: 6, 360: 0, 396: 0, 400: 6, 412: 6, 416: 0, 996: 0, 1000: 6, 1012: 6, 1016: 0, 1020: 0, 1021: 6, 1024: 6, // other ones'
		1: 6, 4: 6, 16: 6, 100: 6, 300: 6, 308: 6, 320: 6, -1: 6, -4: 6, -332: 6, math.MinInt32: 6, math.MinInt32 + 332: 6, math.MaxInt32: 6, 65536 + 332: 6,
	} {
		for _, cell := range []int{308, 356, 1000} {
			for _, old := range []uint32{0, 336} {
				g := fresh(t)
				g.put(cell, old)
				g.r[1], g.r[2] = value, int32(cell)
				g.checkDone(t, want, api.Store, 1, 2, 0)
				if want != 0 {
					g.checkWord(t, cell, old)
				} else {
					g.checkWord(t, cell, uint32(value))
				}
			}
		}
	}
}

// Of a byte always: even of what is there already.
func TestP7_1StoreByteToCellTraps(t *testing.T) {
	for _, cell := range []int{300, 308, 316, 348, 356, 1000, 1008} {
		for n := -2; n < 6; n++ {
			for _, v := range []int32{0, 1, 255, 256, 300, 332, -1, math.MinInt32} {
				g := fresh(t)
				at := cell + n
				want := 0
				switch {
				case n >= 0 && n < 4:
					want = api.TrapPointer
				case at < 300 || at == 320 || at == 321 || at == 347 || at == 346 || at == 360 || at == 361 || at == 998 || at == 999 || at >= 1012:
					want = api.TrapRange
				}
				g.r[1], g.r[2] = v, int32(at)
				g.checkDone(t, want, api.StorB, 1, 2, 0)
			}
		}
	}
}

func TestP7_1Conditions(t *testing.T) {
	for _, c := range []struct {
		op   int
		a, b int32
		met  bool
	}{
		{api.Same, 5, 5, true}, {api.Same, 5, 6, false}, {api.Same, -1, math.MaxInt32, false},
		{api.Other, 5, 5, false}, {api.Other, 5, 6, true}, {api.Other, 6, 5, true},
		{api.Less, 5, 6, true}, {api.Less, 6, 5, false}, {api.Less, 5, 5, false},
		{api.Less, -1, 0, true}, {api.Less, 0, -1, false}, {api.Less, math.MinInt32, math.MaxInt32, true}, {api.Less, math.MaxInt32, math.MinInt32, false},
		{api.Jump, 5, 5, true}, {api.Jump, 6, 5, true}, {api.Jump, 5, 6, true},
	} {
		for _, n := range numbers() {
			for _, at := range []int{276, 344, begin, 1020} {
				g := fresh(t)
				g.put(at, code(c.op, 3, 4, n))
				g.r[3], g.r[4], g.at = c.a, c.b, at
				want := at + 4
				if c.met {
					want += 4 * n
				}
				if trap := g.check(t); trap != 0 || g.s.At != want {
					t.Fatalf("%v by %d at %d: trap %d, then at %d, want 0 and %d", c, n, at, trap, g.s.At, want)
				}
			}
		}
	}
}

func TestP7_1JumpsToWhereNoneCanBe(t *testing.T) {
	for _, c := range [][2]int{{-131072, begin + 4 - 524288}, {131071, begin + 4 + 524284}, {-1 - begin/4, 0}, {-2 - begin/4, -4}, {-130, 84}, {105, 1024}, {0, begin + 4}} {
		for _, op := range []int{api.Same, api.Jump, api.Call} {
			g := fresh(t)
			if trap := g.do(t, op, 1, 1, c[0]); trap != 0 || g.s.At != c[1] {
				t.Fatalf("operation %d by %d: trap %d, then at %d, want 0 and %d", op, c[0], trap, g.s.At, c[1])
			}
			// The trap is that of the step behind it.
			if trap := g.check(t); c[0] != 0 && trap != api.TrapJump {
				t.Fatalf("a step at %d: trap %d, want TrapJump", c[1], trap)
			}
		}
	}
}

func TestP7_1Jumps(t *testing.T) {
	g := fresh(t)
	g.put(begin, code(api.Jump, 0, 0, -1))
	g.at = begin
	for range 3 {
		if trap := g.check(t); trap != 0 || g.s.At != begin {
			t.Fatalf("a jump to itself: trap %d, then at %d", trap, g.s.At)
		}
	}
	g.do(t, api.Jump, 0, 0, -68)
	if g.s.At != begin-268 {
		t.Fatalf("then at %d, want %d", g.s.At, begin-268)
	}
}

func TestP7_1Call(t *testing.T) {
	for a := range 16 {
		for _, n := range numbers() {
			g := fresh(t)
			g.r[a] = -99
			trap := g.do(t, api.Call, a, (a+n)&15, n)
			if trap != 0 || g.s.At != begin+4+4*n {
				t.Fatalf("Call %d, %d: trap %d, then at %d", a, n, trap, g.s.At)
			}
			g.checkReg(t, a, begin+4)
		}
	}
}

func TestP7_1Go(t *testing.T) {
	for v, want := range map[int32]int{
		0: 0, 1: 1, 276: 276, 333: 333, begin: begin, 1024: 1024, math.MaxInt32: math.MaxInt32,
		-1: math.MaxUint32, -4: 1<<32 - 4, math.MinInt32: 1 << 31, math.MinInt32 + 332: 1<<31 + 332,
	} {
		for a := range 16 {
			g := fresh(t)
			for reg := range g.r {
				g.r[reg] = 44
			}
			g.r[a] = v
			if trap := g.do(t, api.Go, a, (a+1)&15, 5); trap != 0 || g.s.At != want {
				t.Fatalf("Go of %d: trap %d, then at %d, want %d", v, trap, g.s.At, want)
			}
			g.checkReg(t, a, v)
			g.check(t)
		}
	}
}

func TestP7_1CallAndBack(t *testing.T) {
	g := fresh(t)
	g.put(begin, code(api.Call, 15, 0, 3))
	g.put(begin+16, code(api.Go, 15, 0, 0))
	g.at = begin
	for _, want := range []int{begin + 16, begin + 4} {
		if trap := g.check(t); trap != 0 || g.s.At != want {
			t.Fatalf("trap %d, then at %d, want 0 and %d", trap, g.s.At, want)
		}
	}
	// It reads the register that the call has written.
	g.put(begin, code(api.Call, 15, 15, -1))
	g.at = begin
	if trap := g.check(t); trap != 0 || g.s.At != begin || g.s.R[15] != begin+4 {
		t.Fatalf("trap %d, then %v", trap, *g.s)
	}
}

func TestP7_1StepOfNothing(t *testing.T) {
	for which := range 7 {
		g := fresh(t)
		g.put(begin, code(api.Set, 3, 0, 7))
		g.at = begin
		g.s.At, g.s.R = g.at, g.r
		s, m, z := g.s, g.m, g.z
		if which&1 == 0 {
			s = nil
		}
		if which&2 == 0 {
			m = nil
		}
		if which&4 == 0 {
			z = nil
		}
		if trap := Step(s, m, z); trap != api.TrapCode {
			t.Fatalf("Step(%v, %v, %v): trap %d, want TrapCode", s != nil, m != nil, z != nil, trap)
		}
		g.checkSame(t, g.plain)
		// Even where another trap would come.
		if s != nil {
			s.At = 3
			if trap := Step(s, m, z); trap != api.TrapCode || s.At != 3 {
				t.Fatalf("trap %d at %d, want TrapCode at 3", trap, s.At)
			}
		}
	}
}

func TestP7_1NoZones(t *testing.T) {
	g := rigged(t, 1024, nil)
	for at := -4; at < 1030; at++ {
		g.at = at
		if trap := g.check(t); trap != api.TrapJump {
			t.Fatalf("a step at %d, of no zones: trap %d, want TrapJump", at, trap)
		}
	}
}

// beyond are zones that reach beyond a memory of 1024 bytes: with data, and code, on both sides of its end.
func beyond(t *testing.T) *rig {
	t.Helper()
	return rigged(t, 1024, []zone.Zone{
		{Base: 400, Data: 400, Read: 400, End: 1000},
		{Base: 1008, Data: 1032, Read: 1040, End: 1064, Ptrs: []int{1012, 1024}, Procs: []int{1016, 1028}},
		{Base: 2000, Data: 2016, Read: 2020, End: 2040, Ptrs: []int{2004}, Procs: []int{2012}},
	})
}

func TestP7_1InstructionBeyondMemory(t *testing.T) {
	g := rigged(t, 1024, []zone.Zone{{Base: 1000, Data: 1004, Read: 1008, End: 1064}})
	for _, at := range []int{1008, 1020} {
		g.put(at, code(api.Set, 1, 0, 3))
	}
	for at, want := range map[int]int{1008: 0, 1020: 0, 1024: 5, 1028: 5, 1060: 5, 1064: 5, 1021: 5, 1023: 5} {
		g.at = at
		if trap := g.check(t); trap != want {
			t.Fatalf("a step at %d: trap %d, want %d", at, trap, want)
		}
	}
}

func TestP7_1TouchBeyondMemory(t *testing.T) {
	for _, c := range []struct {
		op, at int
		v      int32
		want   int
	}{
		{api.Load, 1020, 0, 0}, {api.Load, 1024, 0, 2}, {api.Load, 1028, 0, 2}, {api.Load, 1036, 0, 2}, {api.Load, 2000, 0, 2}, {api.Load, 1026, 0, 3},
		{api.LoadB, 1023, 0, 0}, {api.LoadB, 1024, 0, 2}, {api.LoadB, 1039, 0, 2}, {api.LoadB, 2019, 0, 2},
		{api.Store, 1020, 5, 0}, {api.Store, 2000, 5, 2}, {api.Store, 2008, 0, 2}, {api.Store, 2002, 5, 3}, {api.Store, 1036, 5, 2},
		{api.Store, 1012, 5, 6}, {api.Store, 1012, 1024, 0}, {api.Store, 1012, 2000, 0}, // a place of a zone, though not of the memory
		{api.Store, 1016, 5, 6}, {api.Store, 1016, 1040, 0}, {api.Store, 1016, 2036, 0},
		{api.Store, 1024, 5, 6}, {api.Store, 1024, 0, 2}, {api.Store, 1024, 1008, 2}, {api.Store, 1024, -1, 6}, // TrapPointer first
		{api.Store, 1028, 5, 6}, {api.Store, 1028, 0, 2}, {api.Store, 1028, 400, 2}, {api.Store, 2004, 1, 6}, {api.Store, 2012, 0, 2},
		{api.StorB, 1020, 5, 0}, {api.StorB, 1023, 5, 0}, {api.StorB, 2000, 5, 2}, {api.StorB, 2008, 5, 2},
		{api.StorB, 1015, 0, 6}, {api.StorB, 1024, 0, 6}, {api.StorB, 1027, 5, 6}, {api.StorB, 1031, 0, 6}, {api.StorB, 1032, 0, 2},
	} {
		g := beyond(t)
		g.r[1], g.r[2] = c.v, int32(c.at)
		g.checkDone(t, c.want, c.op, 1, 2, 0)
	}
	g := beyond(t)
	for op := api.Load; op <= api.StorB; op++ {
		for at := 1000; at < 2050; at++ {
			for _, v := range []int32{0, 5, 1030, 1044, 2036} {
				g.r[1], g.r[2] = v, int32(at)
				g.do(t, op, 1, 2, 0)
			}
		}
	}
}

// checkKept asks P7.2 of a step: cells, bytes that can't be stored, and zones.
func (g *rig) checkKept(t *testing.T, before plain) {
	t.Helper()
	for _, x := range g.zones {
		for _, cell := range slices.Concat(x.Ptrs, x.Procs) {
			w, trap := g.m.Word(cell)
			was := before.fits(before.cell(cell), int(before.word(cell)))
			if trap != 0 || was && !g.z.Fits(g.z.Cell(cell), int(w)) {
				t.Fatalf("behind a step the cell %d has %d", cell, w)
			}
		}
	}
	for at, b := range g.m.Bytes(0, g.m.Size()) {
		if b != before.bytes[at] && !g.z.CanStore(at, 1) {
			t.Fatalf("a step has changed the byte at %d", at)
		}
	}
	same := func(x, y zone.Zone) bool {
		return x.Base == y.Base && x.Data == y.Data && x.Read == y.Read && x.End == y.End &&
			slices.Equal(x.Ptrs, y.Ptrs) && slices.Equal(x.Procs, y.Procs)
	}
	if !slices.EqualFunc(g.z.All(), g.zones, same) {
		t.Fatalf("a step has changed the zones to %v", g.z.All())
	}
}

// anyCode is a word that is an instruction most of the time, and often one that stores.
func anyCode(roll func(int) int) uint32 {
	l := numbers()
	switch roll(8) {
	case 0:
		return uint32(roll(1<<31)) * 2
	case 1, 2, 3:
		return code(api.Store+2*roll(2), roll(16), roll(16), 4*roll(8)-16)
	case 4:
		return code(api.Add+roll(9), roll(16), roll(16), roll(16))
	case 5:
		return code(api.Set, roll(16), 0, 4*roll(260))
	}
	return code(api.Set+roll(21), roll(16), roll(16), l[roll(len(l))])
}

func TestP7_2LongRuns(t *testing.T) {
	cells := []int{300, 308, 316, 348, 356, 1000, 1008}
	places := []int32{0, 272, 300, 319, 332, 336, 348, 360, 400, 416, 1000, 1016}
	l := values()
	for seed := range uint64(60) {
		g := fresh(t)
		roll := rolled(seed)
		for range 600 {
			at := 416 + 4*roll(146)
			g.put(at, anyCode(roll))
			g.at = at
			for range 3 {
				g.r[roll(16)] = int32(cells[roll(len(cells))])
				g.r[roll(16)] = places[roll(len(places))]
				g.r[roll(16)] = l[roll(len(l))]
			}
			if roll(20) == 0 {
				// From here on it may have any value, as loading could leave it.
				g.put(cells[roll(len(cells))], uint32(roll(2000)))
			}
			before := g.clone()
			g.check(t)
			g.checkKept(t, before)
		}
	}
}

// goodCode seldom traps where register 14 has a zone's Base.
func goodCode(roll func(int) int) uint32 {
	a := roll(14)
	switch roll(4) {
	case 0:
		return code(api.Add+roll(3), a, roll(16), roll(16))
	case 1:
		return code(api.Same+roll(5), a, roll(16), roll(9)-4)
	case 2:
		return code([]int{api.Set, api.More}[roll(2)], a, 14, 4*roll(20))
	}
	return code([]int{api.Load, api.Store, api.LoadB}[roll(3)], a, 14, 4*roll(8))
}

// Code that goes on by itself, from step to step.
func TestP7_2LongWays(t *testing.T) {
	steps := 0
	for seed := range uint64(300) {
		g := fresh(t)
		roll := rolled(seed + 1000)
		for at := 416; at < 1000; at += 4 {
			g.put(at, goodCode(roll))
		}
		g.at, g.r[14] = 416+4*roll(100), 300
		for range 200 {
			before := g.clone()
			trap := g.check(t)
			g.checkKept(t, before)
			if trap != 0 {
				break
			}
			steps++
		}
	}
	if steps < 1000 {
		t.Fatalf("only %d steps without a trap", steps)
	}
}

// Each value at each edge to each word of data and of the stack's end, with each way to store.
func TestP7_2CellsKeepWhatTheyMayHave(t *testing.T) {
	g := fresh(t)
	for at := 264; at < 420; at++ {
		for v := int32(-8); v < 1030; v += 3 {
			g.put(begin, code(api.Store+2*int(v&1), 1, 2, 0))
			g.r[1], g.r[2], g.at = v, int32(at), begin
			before := g.clone()
			g.check(t)
			g.checkKept(t, before)
		}
	}
}

// Nothing is kept: two machines that take turns go their own ways, and zones that go are gone for the next step.
func TestP7_2NothingIsKept(t *testing.T) {
	g, h := fresh(t), fresh(t)
	for n := range 20 {
		g.checkDone(t, 0, api.Set, 1, 0, n)
		h.checkDone(t, 0, api.Set, 1, 0, -n)
		g.r[2], h.r[2] = 300, 300
		g.r[1], h.r[1] = 304, 303
		g.checkDone(t, 0, api.Store, 1, 2, 0)
		h.checkDone(t, 0, api.Store, 1, 2, 0)
	}
	g.put(begin, code(api.Store, 1, 2, 0))
	g.at = begin
	g.z.Remove(300)
	g.zones = slices.Delete(g.zones, 1, 2)
	if trap := g.check(t); trap != api.TrapRange {
		t.Fatalf("a store to a zone that is gone: trap %d, want TrapRange", trap)
	}
	g.z.Remove(400)
	g.zones = slices.Delete(g.zones, 2, 3)
	if trap := g.check(t); trap != api.TrapJump {
		t.Fatalf("a step in a zone that is gone: trap %d, want TrapJump", trap)
	}
}

// A store can't change code: what is run is what is there.
func TestP7_1RunsWhatIsThere(t *testing.T) {
	g := fresh(t)
	for n := range 8 {
		g.checkDone(t, 0, api.Set, n, 0, n+3)
		g.checkReg(t, n, int32(n)+3)
	}
}

// More than one trap applies: the first that the chapter names is told.
func TestP7_1R1FirstTrap(t *testing.T) {
	g := fresh(t)
	for _, c := range [][4]int{
		{api.Load, 0, 2, 1}, {api.Load, 0, 2, 3}, {api.Store, 0, 2, 1}, // odd, and not to be loaded
		{api.Store, 0, 2, 299}, {api.Store, 0, 2, 301}, {api.Store, 0, 2, 303}, {api.Store, 0, 2, 317}, // odd, and in a declared cell
	} {
		g.r[0], g.r[2] = 5, 0
		g.checkDone(t, api.TrapAlign, c[0], c[1], c[2], c[3])
	}
	// A place at no multiple of 4 with a word that is none.
	g.put(begin, 0)
	g.at = begin + 1
	if trap := g.check(t); trap != api.TrapJump {
		t.Fatalf("trap %d, want TrapJump", trap)
	}
}

func TestP1NoStepPanics(t *testing.T) {
	ats := []int{0, 3, 276, 332, begin, 1020, 1024, 65536, math.MaxInt32, math.MinInt32, -4, 1 << 32, 1<<32 + 276, math.MinInt, math.MinInt + 3, math.MaxInt, math.MaxInt - 3}
	for _, g := range []*rig{fresh(t), beyond(t), rigged(t, 1024, nil), rigged(t, 65536, sample())} {
		for _, at := range ats {
			g.at = at
			for reg := range g.r {
				g.r[reg] = values()[reg*3]
			}
			g.check(t)
		}
	}
	for _, s := range []*State{nil, {}, {At: math.MinInt}} {
		for _, m := range []*mem.Memory{nil, {}} {
			for _, z := range []*zone.Zones{nil, {}, zone.New()} {
				if Step(s, m, z) == 0 {
					t.Fatalf("a step of %v was done", s)
				}
			}
		}
	}
}
