package symbol

import (
	"dowel/api"
	"math"
	"testing"
)

// goes asks what it comes to where code goes on at a value, and what with no fuel for the step that tells.
func goes(t *testing.T, v Value, want func(steps int) api.Outcome) {
	t.Helper()
	p := prober().value(1, v)
	p.ins(api.Go, 1, 0, 0)
	steps := p.here()
	g := probe(t, p)
	g.is(3, 0, enough, want(steps))
	ahead := spent(steps)
	if v == anumber(-4) {
		ahead = done(steps)
	}
	g.is(3, 0, steps, ahead).is(3, 0, steps-1, spent(steps-1))
}

func traps(trap int) func(int) api.Outcome {
	return func(steps int) api.Outcome { return trapped(trap, steps) }
}

// At the number -4 it is done, at others below StackTo it has trapped, at others it isn't known.
func TestP22_2GoesToNumbers(t *testing.T) {
	goes(t, anumber(-4), done)
	for _, n := range []int{0, 1, 3, 4, 15, 16, 140, 268, 271} {
		goes(t, anumber(n), traps(api.TrapJump))
	}
	for _, n := range []int{272, 273, 276, 336, 65535, 65536, math.MaxInt32, math.MinInt32, -8, -5, -3, -2, -1} {
		goes(t, anumber(n), traps(api.TrapMix))
	}
}

// At a place: each one of a target's block.
func TestP22_2GoesToPlaces(t *testing.T) {
	for at := 0; at <= targetSize; at++ {
		switch {
		case at == targetSize:
			goes(t, aplace(2, at), traps(api.TrapMix))
		case at < targetCode || at%4 != 0:
			goes(t, aplace(2, at), traps(api.TrapJump))
		default:
			// In a target's code there are two steps, one that goes back, and a word that is no instruction.
			p := prober().value(1, aplace(2, at)).ins(api.Go, 1, 0, 0)
			steps, left := p.here(), (targetSize-at)/4-1
			want := done(steps + left)
			if left == 0 {
				want = trapped(api.TrapCode, steps)
			}
			probe(t, p).is(3, 0, enough, want)
		}
	}
}

// Its own block: in its code it goes on there, elsewhere it is TrapJump, at the end TrapMix.
func TestP22_2GoesToItsOwn(t *testing.T) {
	for _, at := range []int{0, 4, 24, 56, 60, 63, 65, 66, 67} {
		goes(t, aplace(3, at), traps(api.TrapJump))
	}
	p := prober().value(1, aplace(3, 64)).ins(api.Go, 1, 0, 0)
	probe(t, p).is(3, 0, 17, spent(17))
	// Behind the last instruction there is nothing that is known.
	p = prober().ins(api.Set, 1, 0, 5).ins(api.Set, 1, 0, 6)
	probe(t, p).is(3, 0, enough, trapped(api.TrapMix, 2)).is(3, 1, enough, trapped(api.TrapMix, 1)).is(3, 0, 2, spent(2))
}

// A jump may lead anywhere in its block, and out of it.
func TestP22_2Jumps(t *testing.T) {
	// The jump is the code's third instruction, at 72 of a block of 84 bytes.
	for n := -40; n <= 40; n++ {
		for _, op := range []int{api.Jump, api.Same, api.Call} {
			p := prober().ins(api.Set, 1, 0, 5).back().ins(op, 2, 2, n).back().back()
			at := 76 + 4*n
			want := trapped(api.TrapJump, 1)
			switch {
			case at < 0 || at >= 84:
				want = trapped(api.TrapMix, 1)
			case at == 64:
				want = done(3)
			case at == 72:
				want = spent(enough)
			case at > 64:
				want = done(2)
			}
			if op == api.Call && at == 72 {
				want = spent(enough)
			}
			probe(t, p).is(3, 2, enough, want)
		}
	}
	for _, n := range []int{-131072, 131071} {
		for _, op := range []int{api.Jump, api.Same, api.Call} {
			p := prober().ins(op, 2, 2, n).back()
			probe(t, p).is(3, 0, enough, trapped(api.TrapMix, 1))
		}
	}
	// Where Other and Less aren't met, it goes on behind them.
	p := prober().ins(api.Other, 2, 2, 50).ins(api.Less, 2, 2, 50).back()
	probe(t, p).is(3, 0, enough, done(3))
	// The number that a jump would come to is not the end.
	p = prober().ins(api.Jump, 0, 0, -18)
	probe(t, p).is(3, 0, enough, trapped(api.TrapMix, 1))
}

// A Call that refers to something goes on there, and its register has where it came from.
func TestP22_2CallsOfImports(t *testing.T) {
	for mod := 1; mod <= 2; mod++ {
		p := prober().ins(api.More, 4, 15, 0).ref(calls, 15, mod, itsCode).keep(15, result).ins(api.Go, 4, 0, 0)
		probe(t, p).is(3, 0, enough, done(2+3+3)).has(3, append(numbers(0, 0, 0, 0, 0), aplace(3, 72))...)
	}
	// Of its own procedure, which lies behind; the way back is a place like others.
	p := prober().ins(api.More, 4, 15, 0).ref(calls, 15, 0, itsCode).keep(15, result).ins(api.Go, 4, 0, 0)
	p.o.Exports[itsCode].At = p.here()
	p.ins(api.More, 3, 15, 0).keep(3, 4).ins(api.Go, 3, 0, 0)
	g := probe(t, p)
	g.is(3, 0, enough, done(9)).has(3, append(numbers(0, 0, 0, 0), aplace(3, 72), aplace(3, 72))...)
	// A Call as the last instruction: the way back is the block's end.
	p = prober().ref(calls, 2, 1, itsCode)
	probe(t, p).is(3, 0, enough, done(4))
}

// The place behind a Call may be the end of the block: it is told, but can't be gone on at.
func TestP22_2CallAtTheEnd(t *testing.T) {
	a := unit("A", "K").export(api.Proc, 0).ref(addresses, 2, 1, 0).ins(api.Store, 1, 2, 0).ins(api.Go, 1, 0, 0)
	g := newRig(t, twoWays()...).adds(unit("K").data(1).export(api.Var, 0), a)
	p := unit("P", "K", "A").ref(calls, 1, 2, 0)
	g.add(p, 1, 2)
	g.is(3, 0, enough, trapped(api.TrapMix, 4)).has(1, aplace(3, 4))
}

// Code of commands, and of bodies, is called like other code: none of it is run by Add.
func TestP22_2AddRunsNothing(t *testing.T) {
	x := unit("A").data(1).export(api.Var, 0).body().ins(api.Set, 1, 0, 9).keep(1, 0).back()
	x.o.Cmds = []api.Entry{{Name: "Run", At: 1}}
	g := newRig(t, nil).adds(x).has(1, Value{})
	g.is(1, 1, enough, done(3)).has(1, Value{}).is(1, x.o.Body-1, enough, done(4)).has(1, anumber(9))
}

// Words that are no instructions are TrapCode, also where they were parts of a chain's numbers elsewhere.
func TestP22_2NoInstructions(t *testing.T) {
	for _, w := range []uint32{0, 22 << 26, 63 << 26, 0xffffffff, 2<<26 | 16, 10<<26 | 1<<17, 5<<26 | 0x3ffff} {
		p := prober().ins(api.Set, 1, 0, 1)
		p.o.Code = append(p.o.Code, w)
		probe(t, p).is(3, 0, enough, trapped(api.TrapCode, 1)).is(3, 1, enough, trapped(api.TrapCode, 0)).is(3, 1, 0, spent(0))
	}
}

// With TrapMix nothing is done by that step, as with each other trap: registers, data and stack stay as they were.
func TestP22_2NothingIsDoneByATrap(t *testing.T) {
	place := func(n int) Value { return aplace(2, n) }
	for _, x := range []struct {
		op, a, b, n int
		v, w        Value // registers 1 and 2
		trap        int
	}{
		{api.More, 1, 1, 1, place(80), Value{}, api.TrapMix},
		{api.Add, 1, 1, 2, place(80), anumber(1), api.TrapMix},
		{api.Add, 2, 1, 2, place(8), place(8), api.TrapMix},
		{api.Sub, 2, 1, 2, place(8), aplace(1, 8), api.TrapMix},
		{api.Mul, 1, 1, 2, place(8), anumber(1), api.TrapMix},
		{api.Div, 1, 1, 2, place(8), anumber(0), api.TrapMix},
		{api.Div, 1, 1, 2, anumber(8), anumber(0), api.TrapDivide},
		{api.Load, 1, 1, 0, place(80), anumber(3), api.TrapMix},
		{api.Load, 1, 1, 0, place(64), anumber(3), api.TrapRange},
		{api.Load, 1, 1, 1, place(80), anumber(3), api.TrapAlign},
		{api.LoadB, 1, 1, 0, place(44), anumber(3), api.TrapMix},
		{api.Store, 2, 1, 0, place(80), anumber(3), api.TrapMix},
		{api.Store, 2, 1, 0, place(0), anumber(272), api.TrapMix},
		{api.Store, 2, 1, 0, place(0), anumber(271), api.TrapPointer},
		{api.Store, 1, 1, 4, place(0), anumber(271), api.TrapPointer},
		{api.StorB, 1, 1, 0, place(8), anumber(3), api.TrapMix},
		{api.StorB, 2, 1, 0, place(0), anumber(3), api.TrapPointer},
		{api.Same, 1, 2, 1, place(8), anumber(3), api.TrapMix},
		{api.Less, 1, 2, 1, place(8), anumber(0), api.TrapMix},
		{api.Other, 1, 2, -5, place(8), aplace(1, 8), api.TrapMix},
	} {
		p := prober().value(1, x.v).value(2, x.w).ins(api.Store, 1, 14, -4)
		at := p.here()
		p.ins(x.op, x.a, x.b, x.n).back()
		g := probe(t, p)
		before := g.w.state()
		s := begun(aplace(3, p.code()))
		for range at {
			if trap := g.w.step(&s); trap != 0 {
				t.Fatalf("trap %d", trap)
			}
		}
		before.Stack[63] = x.v
		was := s
		for range 2 {
			if trap := g.w.step(&s); trap != x.trap || s != was {
				t.Errorf("op %d of %v, %v: trap %d, %v, was %v", x.op, x.v, x.w, trap, s, was)
			}
		}
		if after := g.w.state(); !alike(before, after) {
			t.Errorf("behind op %d of %v, %v all is %+v, was %+v", x.op, x.v, x.w, after, before)
		}
		probe(t, p).is(3, 0, enough, trapped(x.trap, at))
	}
}
