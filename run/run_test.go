package run

import (
	"bytes"
	"dowel/api"
	"dowel/cpu"
	"dowel/mem"
	"dowel/zone"
	"math"
	"slices"
	"testing"
)

// begin is where code is put: behind 24 bytes of data, of which 404 points and 408 tells code, and 16 bytes that are only read.
const begin = 440

// end is the place at which code is done.
const end = 4294967292

// rig is a machine.
type rig struct {
	m *mem.Memory
	z *zone.Zones
}

// built is a machine of so many bytes, with one zone, whose code is these words.
func built(t *testing.T, size int, words ...uint32) rig {
	t.Helper()
	m, err := mem.New(size)
	if err != nil {
		t.Fatal(err)
	}
	z := zone.New()
	block := zone.Zone{Base: 400, Data: 424, Read: 440, End: begin + 4*len(words), Ptrs: []int{404}, Procs: []int{408}}
	if err := z.Add(block); err != nil {
		t.Fatal(err)
	}
	g := rig{m, z}
	for i, w := range words {
		g.put(t, begin+4*i, w)
	}
	return g
}

// small is one of the least memory.
func small(t *testing.T, words ...uint32) rig {
	t.Helper()
	return built(t, api.MinSize, words...)
}

func (g rig) put(t *testing.T, at int, w uint32) {
	t.Helper()
	if trap := g.m.SetWord(at, w); trap != 0 {
		t.Fatalf("SetWord(%d, %d): trap %d", at, w, trap)
	}
}

func (g rig) bytes() []byte { return g.m.Bytes(0, g.m.Size()) }

func (g rig) checkWord(t *testing.T, at int, want uint32) {
	t.Helper()
	if w, trap := g.m.Word(at); w != want || trap != 0 {
		t.Fatalf("the word at %d is %d, trap %d, want %d", at, w, trap, want)
	}
}

// check calls a place, and asks that it comes to that.
func (g rig) check(t *testing.T, at, fuel int, want api.Outcome) {
	t.Helper()
	if o := Call(g.m, g.z, at, fuel); o != want {
		t.Fatalf("Call at %d, with fuel %d: %+v, want %+v", at, fuel, o, want)
	}
}

// code is an instruction's word, even if it may not be.
func code(op, a, b, n int) uint32 {
	return uint32(op)<<26 | uint32(a)<<22 | uint32(b)<<18 | uint32(n)&(1<<18-1)
}

func done(steps int) api.Outcome { return api.Outcome{End: 0, Steps: steps} }

func trapped(trap, steps int) api.Outcome { return api.Outcome{End: 1, Trap: trap, Steps: steps} }

func out(steps int) api.Outcome { return api.Outcome{End: 2, Steps: steps} }

// limit is how many steps a call with so much fuel may do, as the chapter has it.
func limit(fuel int) int {
	if fuel < 0 {
		return 0
	}
	if fuel < 2000 {
		return fuel
	}
	return 2000
}

// back goes to where it was called from.
var back = code(api.Go, 15, 0, 0)

// countdown is code that is done behind so many steps (4 or more), by a loop.
func countdown(steps int) []uint32 {
	l := []uint32{code(api.Set, 1, 0, (steps-2)/2)}
	if steps%2 == 1 {
		l = append(l, code(api.Set, 2, 0, 5))
	}
	return append(l, code(api.More, 1, 1, -1), code(api.Other, 1, 0, -2), back)
}

// straight is code that is done behind so many steps (1 or more), without a loop.
func straight(steps int) []uint32 {
	l := slices.Repeat([]uint32{code(api.More, 1, 1, 1)}, steps-1)
	return append(l, back)
}

// ticking never ends, and counts at 16 how often it was there.
func ticking() []uint32 {
	return []uint32{code(api.More, 1, 1, 1), code(api.Store, 1, 0, 16), code(api.Jump, 0, 0, -3)}
}

func TestP8_1Example(t *testing.T) {
	for _, fuel := range []int{1, 2, 100, 2000, 2001, math.MaxInt} {
		small(t, back).check(t, begin, fuel, done(1))
	}
}

func TestP8_1RegistersAtFirst(t *testing.T) {
	var words []uint32
	for reg := range 16 {
		// Register 0, to which these places are added, is 0 itself.
		words = append(words, code(api.Store, reg, 0, 16+4*reg))
	}
	g := small(t, append(words, back)...)
	for at := 16; at < 272; at += 4 {
		g.put(t, at, 77)
	}
	// Nothing of a call before is left in them.
	for range 3 {
		g.check(t, begin, 100, done(17))
		for reg := range 14 {
			g.checkWord(t, 16+4*reg, 0)
		}
		g.checkWord(t, 16+4*14, 272)
		g.checkWord(t, 16+4*15, 4294967292)
		g.checkWord(t, 16+4*16, 77)
	}
}

func TestP8_1RegistersAreFreshEachTime(t *testing.T) {
	words := []uint32{code(api.Load, 1, 0, 16), code(api.Other, 2, 0, 16), code(api.More, 1, 1, 1), code(api.Store, 1, 0, 16)}
	for reg := range 15 {
		words = append(words, code(api.Set, reg, 0, 1000+reg))
	}
	g := small(t, append(words, back)...)
	for n := range 5 {
		g.check(t, begin, 100, done(20))
		g.checkWord(t, 16, uint32(n)+1)
	}
	// What a call without enough fuel has left in them is gone too.
	g.check(t, begin, 19, out(19))
	g.check(t, begin, 100, done(20))
	g.checkWord(t, 16, 7)
}

func TestP8_1CallOfTheEnd(t *testing.T) {
	g := small(t, back)
	before := g.bytes()
	for _, fuel := range []int{5, 1, 0, -1, -2000, 2000, 2001, math.MaxInt, math.MinInt} {
		g.check(t, end, fuel, done(0))
	}
	if !bytes.Equal(g.bytes(), before) {
		t.Fatal("a call of the end has changed the memory")
	}
}

func TestP8_1FuelAtItsEdges(t *testing.T) {
	for steps := 1; steps < 40; steps++ {
		codes := [][]uint32{straight(steps)}
		if steps >= 4 {
			codes = append(codes, countdown(steps))
		}
		for _, words := range codes {
			g := small(t, words...)
			for fuel := -3; fuel < 60; fuel++ {
				want := done(steps)
				if fuel < steps {
					want = out(limit(fuel))
				}
				g.check(t, begin, fuel, want)
			}
		}
	}
}

func TestP8_1MostFuel(t *testing.T) {
	fuels := []int{-1, 0, 1, 2, 1000, 1997, 1998, 1999, 2000, 2001, 2002, 4000, 65536, math.MaxInt32, 1 << 32, 1<<32 + 5, math.MaxInt - 1, math.MaxInt}
	for _, steps := range []int{1997, 1998, 1999, 2000, 2001, 2002, 4000} {
		for _, words := range [][]uint32{straight(steps), countdown(steps)} {
			g := built(t, api.MaxSize, words...)
			for _, fuel := range fuels {
				want := done(steps)
				if steps > limit(fuel) {
					want = out(limit(fuel))
				}
				g.check(t, begin, fuel, want)
			}
		}
	}
}

func TestP8_1MostFuelInNumbers(t *testing.T) {
	for _, c := range []struct {
		steps, fuel int
		want        api.Outcome
	}{
		{1999, 1998, out(1998)}, {1999, 1999, done(1999)}, {1999, 2000, done(1999)}, {1999, 2001, done(1999)}, {1999, 9999, done(1999)},
		{2000, 1999, out(1999)}, {2000, 2000, done(2000)}, {2000, 2001, done(2000)}, {2000, 9999, done(2000)},
		{2001, 2000, out(2000)}, {2001, 2001, out(2000)}, {2001, 2002, out(2000)}, {2001, 9999, out(2000)},
		{4, 0, out(0)}, {4, 1, out(1)}, {4, 3, out(3)}, {4, 4, done(4)}, {4, 5, done(4)}, {4, -4, out(0)},
	} {
		small(t, countdown(c.steps)...).check(t, begin, c.fuel, c.want)
	}
}

func TestP8_1CodeThatNeverEnds(t *testing.T) {
	for _, words := range [][]uint32{
		{code(api.Jump, 0, 0, -1)},
		{code(api.Call, 15, 0, -1)},
		{code(api.Set, 1, 0, begin), code(api.Go, 1, 0, 0)},
		ticking(),
	} {
		g := small(t, words...)
		for fuel := range 50 {
			g.check(t, begin, fuel, out(fuel))
		}
		for _, fuel := range []int{1999, 2000} {
			g.check(t, begin, fuel, out(fuel))
		}
		for _, fuel := range []int{2001, 2002, 5000, math.MaxInt32, math.MaxInt} {
			g.check(t, begin, fuel, out(2000))
		}
		for _, fuel := range []int{-1, -2, -2000, math.MinInt32, math.MinInt} {
			g.check(t, begin, fuel, out(0))
		}
	}
}

// Each kind of trap, as the first step, and behind others.
func TestP8_1EachTrap(t *testing.T) {
	for _, c := range []struct {
		trap  int
		ahead []uint32
		word  uint32
	}{
		{api.TrapCode, nil, 0}, {api.TrapCode, nil, math.MaxUint32}, {api.TrapCode, nil, code(api.Add, 1, 2, 16)}, {api.TrapCode, nil, code(22, 0, 0, 0)},
		{api.TrapRange, nil, code(api.Load, 1, 0, 0)}, {api.TrapRange, nil, code(api.Load, 1, 0, begin)}, {api.TrapRange, nil, code(api.LoadB, 1, 0, 15)},
		{api.TrapRange, nil, code(api.Load, 1, 14, 0)}, {api.TrapRange, nil, code(api.Store, 1, 15, 0)},
		{api.TrapRange, nil, code(api.Store, 1, 0, 424)}, {api.TrapRange, nil, code(api.StorB, 1, 0, begin)}, {api.TrapRange, nil, code(api.Store, 1, 0, 272)},
		{api.TrapAlign, nil, code(api.Load, 1, 0, 17)}, {api.TrapAlign, nil, code(api.Store, 1, 14, -3)},
		{api.TrapDivide, nil, code(api.Div, 1, 2, 3)}, {api.TrapDivide, nil, code(api.Div, 1, 15, 0)},
		{api.TrapPointer, nil, code(api.StorB, 1, 0, 404)}, {api.TrapPointer, nil, code(api.StorB, 1, 0, 411)},
		{api.TrapPointer, nil, code(api.Store, 14, 0, 404)}, {api.TrapPointer, nil, code(api.Store, 15, 0, 408)},
		{api.TrapPointer, []uint32{code(api.Set, 1, 0, begin)}, code(api.Store, 1, 0, 404)},
		{api.TrapPointer, []uint32{code(api.Set, 1, 0, 400)}, code(api.Store, 1, 0, 408)},
		{api.TrapJump, []uint32{code(api.Set, 1, 0, 16), code(api.Go, 1, 0, 0)}, back},
		{api.TrapJump, []uint32{code(api.Jump, 0, 0, -60)}, back},
	} {
		for more := range 5 {
			words := append(slices.Repeat([]uint32{code(api.More, 9, 9, 1)}, more), c.ahead...)
			g := small(t, append(words, c.word, back)...)
			before := g.bytes()
			steps := more + len(c.ahead)
			g.check(t, begin, 100, trapped(c.trap, steps))
			g.check(t, begin, steps+1, trapped(c.trap, steps))
			g.check(t, begin, 9999, trapped(c.trap, steps))
			// There was no fuel left for the step that would trap.
			g.check(t, begin, steps, out(steps))
			g.check(t, begin, steps-1, out(limit(steps-1)))
			if !bytes.Equal(g.bytes(), before) {
				t.Fatalf("the memory is changed by %v", words)
			}
		}
	}
}

func TestP8_1TrapAtMostFuel(t *testing.T) {
	for _, steps := range []int{1998, 1999, 2000, 2001} {
		for _, word := range []uint32{0, code(api.Div, 1, 2, 3)} {
			words := straight(steps + 1)
			words[steps] = word
			g := built(t, api.MaxSize, words...)
			trap := api.TrapCode
			if word != 0 {
				trap = api.TrapDivide
			}
			for _, fuel := range []int{1997, 1998, 1999, 2000, 2001, 2002, math.MaxInt} {
				want := trapped(trap, steps)
				if steps >= limit(fuel) {
					want = out(limit(fuel))
				}
				g.check(t, begin, fuel, want)
			}
		}
	}
}

func TestP8_1PlacesWhereNoInstructionCanBe(t *testing.T) {
	g := small(t, back, back, back)
	for at := 16; at < 440; at += 4 {
		if at != 404 && at != 408 {
			g.put(t, at, back)
		}
	}
	for at := 456; at < 1024; at += 4 {
		g.put(t, at, back)
	}
	for at, want := range map[int]api.Outcome{
		440: done(1), 444: done(1), 448: done(1), 452: trapped(5, 0), 456: trapped(5, 0), 436: trapped(5, 0),
		441: trapped(5, 0), 442: trapped(5, 0), 443: trapped(5, 0), 447: trapped(5, 0), 449: trapped(5, 0),
		0: trapped(5, 0), 4: trapped(5, 0), 16: trapped(5, 0), 268: trapped(5, 0), 272: trapped(5, 0), 400: trapped(5, 0), 420: trapped(5, 0), 424: trapped(5, 0),
		1020: trapped(5, 0), 1024: trapped(5, 0), 65536: trapped(5, 0), 65536 + 440: trapped(5, 0), 1<<32 + 440: trapped(5, 0), 440 - 1<<32: trapped(5, 0),
		-4: trapped(5, 0), -1: trapped(5, 0), -440: trapped(5, 0), end - 4: trapped(5, 0), end - 1: trapped(5, 0), end + 1: trapped(5, 0), end + 4: trapped(5, 0),
		end + 1<<32: trapped(5, 0), end - 1<<33: trapped(5, 0), math.MaxInt32: trapped(5, 0), math.MinInt32: trapped(5, 0),
		math.MaxInt: trapped(5, 0), math.MaxInt - 3: trapped(5, 0), math.MinInt: trapped(5, 0), math.MinInt + 440: trapped(5, 0),
	} {
		for _, fuel := range []int{1, 2, 2000, 2001, math.MaxInt} {
			g.check(t, at, fuel, want)
		}
		// Fuel is asked for ahead of a step, even of one that would trap.
		for _, fuel := range []int{0, -1, math.MinInt} {
			g.check(t, at, fuel, out(0))
		}
	}
}

// Code needn't be called at its beginning.
func TestP8_1EachPlace(t *testing.T) {
	g := small(t, straight(20)...)
	for at := -20; at < 1040; at++ {
		want := trapped(api.TrapJump, 0)
		if at >= begin && at < begin+80 && at%4 == 0 {
			want = done(20 - (at-begin)/4)
		}
		g.check(t, at, 100, want)
	}
}

func TestP8_1CodeThatRunsOff(t *testing.T) {
	g := small(t, slices.Repeat([]uint32{code(api.Set, 1, 0, 1)}, 5)...)
	g.check(t, begin, 100, trapped(api.TrapJump, 5))
	g.check(t, begin, 6, trapped(api.TrapJump, 5))
	g.check(t, begin, 5, out(5))
}

// What isn't in register 15 any more can be the end in another one.
func TestP8_1Register15IsLikeOthers(t *testing.T) {
	for _, c := range []struct {
		words []uint32
		want  api.Outcome
	}{
		{[]uint32{code(api.More, 3, 15, 0), code(api.Set, 15, 0, 0), code(api.Go, 3, 0, 0)}, done(3)},
		{[]uint32{code(api.Set, 15, 0, 16), code(api.Set, 7, 0, -4), code(api.Go, 7, 0, 0)}, done(3)},
		{[]uint32{code(api.Set, 15, 0, 0), back}, trapped(api.TrapJump, 2)},
		{[]uint32{code(api.Set, 15, 0, 0), code(api.Set, 15, 0, -4), back}, done(3)},
		{[]uint32{code(api.Set, 15, 0, begin+8), back, code(api.Set, 15, 0, -4), back}, done(4)},
		{[]uint32{code(api.Set, 14, 0, -4), code(api.Go, 14, 0, 0)}, done(2)},
		{[]uint32{code(api.Go, 14, 0, 0)}, trapped(api.TrapJump, 1)},
		{[]uint32{code(api.Go, 0, 0, 0)}, trapped(api.TrapJump, 1)},
		{[]uint32{code(api.Store, 15, 14, -4), code(api.Load, 2, 14, -4), code(api.Go, 2, 0, 0)}, done(3)},
	} {
		small(t, c.words...).check(t, begin, 100, c.want)
	}
}

func TestP8_1CodeThatCallsAndComesBack(t *testing.T) {
	g := small(t,
		code(api.Call, 13, 0, 1), // 440: to 448
		back,
		code(api.Set, 1, 0, 33), // 448
		code(api.Store, 1, 0, 16),
		code(api.Go, 13, 0, 0),
	)
	g.check(t, begin, 100, done(5))
	g.check(t, begin, 5, done(5))
	g.check(t, begin, 4, out(4))
	g.checkWord(t, 16, 33)
	// Register 15 is kept in the stack, where 14 tells it.
	g = small(t,
		code(api.Store, 15, 14, -4),
		code(api.Call, 15, 0, 3), // 444: to 460
		code(api.Call, 15, 0, 2), // 448: to 460
		code(api.Load, 15, 14, -4),
		back,
		code(api.Load, 1, 0, 16), // 460
		code(api.More, 1, 1, 7),
		code(api.Store, 1, 0, 16),
		back,
	)
	g.check(t, begin, 100, done(13))
	g.checkWord(t, 16, 14)
	g.checkWord(t, 268, 4294967292)
	// A call that isn't come back from by its own register never leaves.
	small(t, code(api.Call, 15, 0, 0), back).check(t, begin, 100, out(100))
}

func TestP8_1BesideTheEnd(t *testing.T) {
	for v, want := range map[int]api.Outcome{
		-4: done(2), -3: trapped(5, 2), -5: trapped(5, 2), -8: trapped(5, 2), -1: trapped(5, 2), -2: trapped(5, 2), -12: trapped(5, 2),
		0: trapped(5, 2), 4: trapped(5, 2), 1: trapped(5, 2), -131072: trapped(5, 2), 131068: trapped(5, 2),
	} {
		g := small(t, code(api.Set, 3, 0, v), code(api.Go, 3, 0, 0))
		for _, fuel := range []int{3, 4, 100, 2001} {
			g.check(t, begin, fuel, want)
		}
		if want.End == api.Trapped {
			g.check(t, begin, 2, out(2))
		} else {
			g.check(t, begin, 2, want)
		}
		g.check(t, begin, 1, out(1))
	}
}

// As a place the end is beyond what a jump can reach: one to -4 goes below all places.
func TestP8_1JumpToTheEnd(t *testing.T) {
	for _, op := range []int{api.Same, api.Jump, api.Call} {
		for _, at := range []int{-8, -4, 0} {
			g := small(t, code(api.Set, 1, 0, 0), code(op, 1, 1, at/4-(begin+8)/4))
			g.check(t, begin, 100, trapped(api.TrapJump, 2))
			g.check(t, begin, 3, trapped(api.TrapJump, 2))
			g.check(t, begin, 2, out(2))
		}
	}
	for _, words := range [][]uint32{
		{code(api.Jump, 0, 0, 131071)}, {code(api.Jump, 0, 0, -131072)},
	} {
		small(t, words...).check(t, begin, 100, trapped(api.TrapJump, 1))
	}
	// A jump to what goes to the end.
	small(t, code(api.Jump, 0, 0, 1), 0, back).check(t, begin, 100, done(2))
	small(t, code(api.Jump, 0, 0, 1), back, code(api.Jump, 0, 0, -2)).check(t, begin, 100, done(3))
}

func TestP8_1MemoryBehindACall(t *testing.T) {
	words := []uint32{
		code(api.Set, 1, 0, 400), code(api.Store, 1, 0, 404), // a cell that points
		code(api.Set, 2, 0, begin), code(api.Store, 2, 0, 408), // one that tells code
		code(api.Set, 3, 0, -2), code(api.Store, 3, 0, 420), code(api.StorB, 3, 0, 417),
		code(api.Store, 3, 14, -4), code(api.StorB, 3, 0, 16), back,
	}
	g := small(t, words...)
	for at := 0; at < api.MinSize; at++ {
		if at < begin && at != 404 && (at < 404 || at > 411) {
			g.m.SetByte(at, byte(at*7+3))
		}
	}
	want := g.bytes()
	copy(want[404:], []byte{144, 1, 0, 0})
	copy(want[408:], []byte{184, 1, 0, 0})
	copy(want[420:], []byte{254, 255, 255, 255})
	want[417] = 254
	copy(want[268:], []byte{254, 255, 255, 255})
	want[16] = 254
	g.check(t, begin, 100, done(10))
	if !bytes.Equal(g.bytes(), want) {
		t.Fatal("behind a call the memory is not as the steps have set it")
	}
}

func TestP8_1StepsBeforeATrapStay(t *testing.T) {
	g := small(t, code(api.Set, 1, 0, 5), code(api.Store, 1, 0, 16), code(api.Store, 1, 0, 272), back)
	g.check(t, begin, 100, trapped(api.TrapRange, 2))
	g.checkWord(t, 16, 5)
	g.checkWord(t, 272, 0)
}

func TestP8_1NotAStepMoreThanFuel(t *testing.T) {
	for _, fuel := range []int{-5, 0, 1, 2, 3, 4, 5, 6, 1997, 1998, 1999, 2000, 2001, 2003, 9999, math.MaxInt, math.MinInt} {
		g := small(t, ticking()...)
		g.check(t, begin, fuel, out(limit(fuel)))
		// Each second one of three steps stores.
		g.checkWord(t, 16, uint32((limit(fuel)+1)/3))
	}
}

func TestP8_1ZonesStay(t *testing.T) {
	for _, words := range [][]uint32{ticking(), straight(9), {0}, {code(api.Set, 1, 0, 400), code(api.Store, 1, 0, 404), back}} {
		g := small(t, words...)
		if err := g.z.Add(zone.Zone{Base: 900, Data: 908, Read: 912, End: 920, Ptrs: []int{904, 900}}); err != nil {
			t.Fatal(err)
		}
		before := g.z.All()
		Call(g.m, g.z, begin, 100)
		same := func(x, y zone.Zone) bool {
			return x.Base == y.Base && x.Data == y.Data && x.Read == y.Read && x.End == y.End &&
				slices.Equal(x.Ptrs, y.Ptrs) && slices.Equal(x.Procs, y.Procs)
		}
		if !slices.EqualFunc(g.z.All(), before, same) {
			t.Fatalf("a call has changed the zones to %v", g.z.All())
		}
	}
}

// Code goes from one zone to another one, until that is gone.
func TestP8_1TwoZones(t *testing.T) {
	g := small(t, code(api.Set, 1, 0, 912), code(api.Go, 1, 0, 0))
	other := zone.Zone{Base: 900, Data: 908, Read: 912, End: 920}
	if err := g.z.Add(other); err != nil {
		t.Fatal(err)
	}
	g.put(t, 912, code(api.Set, 2, 0, 3))
	g.put(t, 916, back)
	g.check(t, begin, 100, done(4))
	g.z.Remove(900)
	g.check(t, begin, 100, trapped(api.TrapJump, 2))
}

func TestP8_1CallOfNothing(t *testing.T) {
	g := small(t, back)
	before := g.bytes()
	for _, h := range []rig{{nil, g.z}, {g.m, nil}, {nil, nil}} {
		for _, at := range []int{begin, 0, 3, -4, 1024, math.MaxInt, math.MinInt} {
			for _, fuel := range []int{1, 2, 2000, 2001, math.MaxInt} {
				h.check(t, at, fuel, trapped(api.TrapCode, 0))
			}
			for _, fuel := range []int{0, -1, math.MinInt} {
				h.check(t, at, fuel, out(0))
			}
		}
		for _, fuel := range []int{-1, 0, 1, 2000} {
			h.check(t, end, fuel, done(0))
		}
	}
	if !bytes.Equal(g.bytes(), before) {
		t.Fatal("a call without zones has changed the memory")
	}
}

func TestP8_1NoZones(t *testing.T) {
	g := small(t, back)
	g.z = zone.New()
	for _, at := range []int{begin, 0, 16, 268, 1020, 1024} {
		g.check(t, at, 100, trapped(api.TrapJump, 0))
	}
	g.check(t, end, 100, done(0))
}

// Zones can reach beyond the memory.
func TestP8_1CodeBeyondTheMemory(t *testing.T) {
	m, err := mem.New(api.MinSize)
	if err != nil {
		t.Fatal(err)
	}
	g := rig{m, zone.New()}
	if err := g.z.Add(zone.Zone{Base: 1000, Data: 1004, Read: 1012, End: 1044}); err != nil {
		t.Fatal(err)
	}
	for at := 1012; at < 1024; at += 4 {
		g.put(t, at, code(api.Set, 1, 0, 1))
	}
	g.check(t, 1012, 100, trapped(api.TrapJump, 3))
	g.check(t, 1024, 100, trapped(api.TrapJump, 0))
}

// model is what the chapter's words come to, from what each step tells.
func (g rig) model(at, fuel int) api.Outcome {
	s := cpu.State{R: [16]int32{14: 272, 15: -4}, At: at}
	for steps := range limit(fuel) {
		if s.At == end {
			return done(steps)
		}
		if trap := cpu.Step(&s, g.m, g.z); trap != 0 {
			return trapped(trap, steps)
		}
	}
	if s.At == end {
		return done(limit(fuel))
	}
	return out(limit(fuel))
}

// rolled are numbers that seem random, but are the same each time.
func rolled(seed uint64) func(int) int {
	return func(n int) int {
		seed = seed*6364136223846793005 + 1442695040888963407
		return int(seed >> 33 % uint64(n))
	}
}

// anyCode is a word that is an instruction, and that seldom traps.
func anyCode(roll func(int) int) uint32 {
	a := roll(14)
	switch roll(12) {
	case 0, 1:
		return code(api.Add+roll(9), a, roll(16), roll(16))
	case 2:
		return code(api.Same+roll(5), a, roll(16), roll(13)-6)
	case 3, 4:
		return code([]int{api.Set, api.More}[roll(2)], a, 14, 4*roll(20))
	case 5:
		return code(api.Go, []int{15, 15, 15, a}[roll(4)], 0, 0)
	case 6, 7, 8:
		return code([]int{api.Store, api.StorB}[roll(2)], a, 14, -4*roll(64)-4)
	case 9:
		return code(api.Store, a, 0, 400+4*roll(6))
	case 10:
		return code(api.Set, roll(16), 0, roll(1<<18)-1<<17)
	}
	return code([]int{api.Load, api.LoadB}[roll(2)], a, 14, -4*roll(64)-4)
}

func anyWords(roll func(int) int) []uint32 {
	words := make([]uint32, 1+roll(60))
	for i := range words {
		words[i] = anyCode(roll)
	}
	return words
}

// checkAs calls a place of two machines that are the same, of one by the model, and tells the outcome.
func checkAs(t *testing.T, words []uint32, at, fuel int) (api.Outcome, []byte) {
	t.Helper()
	g, h := small(t, words...), small(t, words...)
	want := h.model(at, fuel)
	g.check(t, at, fuel, want)
	if !bytes.Equal(g.bytes(), h.bytes()) {
		t.Fatalf("behind a call at %d, with fuel %d, the memory is not as it should be", at, fuel)
	}
	return want, g.bytes()
}

func TestP8_2AnyCodeWithAnyFuel(t *testing.T) {
	var ends [3]int
	for seed := range uint64(400) {
		roll := rolled(seed)
		words := anyWords(roll)
		at := begin + 4*roll(len(words))
		most, left := checkAs(t, words, at, 2000)
		ends[most.End]++
		for _, fuel := range []int{0, 1, 2, 3, most.Steps - 1, most.Steps, most.Steps + 1, 1999, 2001, 9999, math.MaxInt} {
			o, b := checkAs(t, words, at, fuel)
			if o.End != api.Fuel && (o != most || !bytes.Equal(b, left)) {
				t.Fatalf("with fuel %d it comes to %+v, with 2000 to %+v", fuel, o, most)
			}
			if o.End == api.Fuel && o.Steps != limit(fuel) {
				t.Fatalf("with fuel %d it is out of it behind %d steps", fuel, o.Steps)
			}
		}
	}
	if min(ends[0], ends[1], ends[2]) < 10 {
		t.Fatalf("too few of some end: %v", ends)
	}
}

// With each fuel from none on: out of it, till it ends; from then on it ends the same.
func TestP8_2EndsTheSameWithMoreFuel(t *testing.T) {
	for _, c := range []struct {
		words []uint32
		want  api.Outcome
	}{
		{straight(25), done(25)},
		{countdown(50), done(50)},
		{[]uint32{code(api.More, 1, 1, 1), code(api.Store, 1, 0, 20), code(api.Set, 2, 0, 9), code(api.Other, 1, 2, -4), back}, done(37)},
		{[]uint32{code(api.More, 1, 1, 4), code(api.Store, 1, 1, 396), code(api.Jump, 0, 0, -3)}, trapped(api.TrapPointer, 4)},
		{[]uint32{code(api.More, 1, 1, 4), code(api.Store, 2, 1, 396), code(api.Jump, 0, 0, -3)}, trapped(api.TrapRange, 19)},
		{[]uint32{code(api.Set, 3, 0, 7), code(api.Store, 3, 0, 16), 0}, trapped(api.TrapCode, 2)},
	} {
		for fuel := range c.want.Steps {
			if o, _ := checkAs(t, c.words, begin, fuel); o != out(fuel) {
				t.Fatalf("with fuel %d: %+v", fuel, o)
			}
		}
		var left []byte
		enough := c.want.Steps
		if c.want.End == api.Trapped {
			enough++
		}
		for _, fuel := range []int{enough, enough + 1, enough + 2, 100, 1999, 2000, 2001, 5000, math.MaxInt} {
			o, b := checkAs(t, c.words, begin, fuel)
			if left == nil {
				left = b
			}
			if o != c.want || !bytes.Equal(b, left) {
				t.Fatalf("with fuel %d: %+v, want %+v, and the same bytes", fuel, o, c.want)
			}
		}
	}
}

// The calls of one machine are nothing to another one.
func TestP8_2NothingIsKept(t *testing.T) {
	g, h := small(t, ticking()...), small(t, countdown(30)...)
	for n := range 10 {
		g.check(t, begin, 3*n+2, out(3*n+2))
		h.check(t, begin, 100, done(30))
		g.checkWord(t, 16, uint32(n)+1)
		h.checkWord(t, 16, 0)
		h.check(t, begin, 29, out(29))
	}
}

func TestP1NoCallPanics(t *testing.T) {
	g := small(t, code(api.Set, 1, 0, -1), code(api.Load, 2, 1, 0))
	numbers := []int{0, 1, -1, 3, -4, begin, end, 1 << 32, 2000, 2001, math.MaxInt32, math.MinInt32, math.MaxInt, math.MaxInt - 3, math.MinInt, math.MinInt + 4}
	for _, m := range []*mem.Memory{nil, {}, g.m} {
		for _, z := range []*zone.Zones{nil, {}, zone.New(), g.z} {
			for _, at := range numbers {
				for _, fuel := range numbers {
					o := Call(m, z, at, fuel)
					if o.End == api.Done && at != end {
						t.Fatalf("a call at %d, with fuel %d, is done", at, fuel)
					}
					if o.End != api.Trapped && o.Trap != 0 {
						t.Fatalf("a call at %d, with fuel %d: %+v", at, fuel, o)
					}
				}
			}
		}
	}
}
