package symbol

import (
	"dowel/api"
	"math"
	"testing"
)

// aplace is one in a module.
func aplace(mod, n int) Value { return Value{mod, n} }

// anumber is one.
func anumber(n int) Value { return Value{N: n} }

// Add of a place and a number, in either order, and Sub of both: what it comes to is in the block, or at its end.
func TestP22_2AddAndSub(t *testing.T) {
	for _, mod := range []int{1, 2} {
		for _, x := range []struct{ from, by int }{
			{0, 0}, {0, 1}, {0, 80}, {80, 0}, {40, 40}, {79, 1}, {80, -80}, {80, -1}, {1, -1}, {4, -4}, {40, -40}, {0, 79}, {12, 3},
		} {
			comes(t, api.Add, aplace(mod, x.from), anumber(x.by), aplace(mod, x.from+x.by), 0)
			comes(t, api.Add, anumber(x.by), aplace(mod, x.from), aplace(mod, x.from+x.by), 0)
			comes(t, api.Sub, aplace(mod, x.from), anumber(-x.by), aplace(mod, x.from+x.by), 0)
			comes(t, api.Sub, anumber(-x.by), aplace(mod, x.from), Value{}, api.TrapMix)
		}
		for _, x := range []struct{ from, by int }{
			{0, -1}, {0, 81}, {80, 1}, {80, -81}, {79, 2}, {1, -2}, {40, 41}, {40, -41}, {0, -4}, {80, 4}, {0, 65536}, {0, math.MaxInt32}, {0, math.MinInt32}, {80, math.MinInt32}, {80, math.MaxInt32}, {1, math.MinInt32 + 1}, {80, -272},
		} {
			comes(t, api.Add, aplace(mod, x.from), anumber(x.by), Value{}, api.TrapMix)
			comes(t, api.Add, anumber(x.by), aplace(mod, x.from), Value{}, api.TrapMix)
			if x.by != math.MinInt32 {
				comes(t, api.Sub, aplace(mod, x.from), anumber(-x.by), Value{}, api.TrapMix)
			}
			comes(t, api.Sub, anumber(x.by), aplace(mod, x.from), Value{}, api.TrapMix)
		}
		comes(t, api.Sub, aplace(mod, 0), anumber(math.MinInt32), Value{}, api.TrapMix)
		comes(t, api.Sub, aplace(mod, 80), anumber(math.MinInt32), Value{}, api.TrapMix)
	}
	comes(t, api.Add, anumber(math.MaxInt32), anumber(1), anumber(math.MinInt32), 0)
	comes(t, api.Sub, anumber(math.MinInt32), anumber(1), anumber(math.MaxInt32), 0)
	comes(t, api.Sub, anumber(3), anumber(5), anumber(-2), 0)
}

// More of a place and of a number.
func TestP22_2More(t *testing.T) {
	for _, x := range []struct {
		from, more, trap int
	}{
		{0, 0, 0}, {0, 80, 0}, {80, -80, 0}, {40, 40, 0}, {40, -40, 0}, {79, 1, 0}, {1, -1, 0},
		{0, -1, api.TrapMix}, {0, 81, api.TrapMix}, {80, 1, api.TrapMix}, {80, -81, api.TrapMix}, {40, 41, api.TrapMix}, {0, 131071, api.TrapMix}, {80, -131072, api.TrapMix},
	} {
		p := prober().value(1, aplace(2, x.from))
		at := p.here()
		p.ins(api.More, 3, 1, x.more).keep(3, result).back()
		g := probe(t, p)
		if x.trap != 0 {
			g.is(3, 0, enough, trapped(x.trap, at)).has(3, numbers(0, 0, 0, 0, 0, 0)...)
			continue
		}
		g.is(3, 0, enough, done(at+4)).has(3, append(numbers(0, 0, 0, 0, 0), aplace(2, x.from+x.more))...)
	}
	g := probe(t, prober().value(1, anumber(math.MaxInt32)).ins(api.More, 3, 1, 131071).keep(3, result).back())
	g.is(3, 0, enough, done(9)).has(3, numbers(0, 0, 0, 0, 0, math.MinInt32+131070)...)
	// Of its own block, from its end back, and beyond it.
	p := prober().value(1, aplace(3, 4))
	size := p.size() + 4*5
	p.ins(api.More, 2, 1, size-4).ins(api.More, 3, 2, -4).keep(3, result).back()
	probe(t, p).is(3, 0, enough, done(7)).has(3, append(numbers(0, 0, 0, 0, 0), aplace(3, size-4))...)
	p.o.Code[2]++
	probe(t, p).is(3, 0, enough, trapped(api.TrapMix, 2))
}

// Sub of two places of one module is the number between; of places of two, and Add of any two, TrapMix.
func TestP22_2TwoPlaces(t *testing.T) {
	for _, x := range []struct{ a, b int }{{0, 0}, {80, 80}, {80, 0}, {0, 80}, {4, 0}, {0, 4}, {3, 1}, {1, 3}, {64, 24}} {
		comes(t, api.Sub, aplace(1, x.a), aplace(1, x.b), anumber(x.a-x.b), 0)
		comes(t, api.Sub, aplace(2, x.a), aplace(2, x.b), anumber(x.a-x.b), 0)
		comes(t, api.Sub, aplace(3, x.a), aplace(3, x.b), anumber(x.a-x.b), 0)
		comes(t, api.Sub, aplace(1, x.a), aplace(2, x.b), Value{}, api.TrapMix)
		comes(t, api.Sub, aplace(3, x.a), aplace(1, x.b), Value{}, api.TrapMix)
		comes(t, api.Add, aplace(1, x.a), aplace(1, x.b), Value{}, api.TrapMix)
		comes(t, api.Add, aplace(2, x.a), aplace(3, x.b), Value{}, api.TrapMix)
	}
}

// Any other op with a place on the left, on the right, on both sides: TrapMix, also of Div by 0, and where the number is 0 or 1.
func TestP22_2OtherOps(t *testing.T) {
	for _, op := range []int{api.Mul, api.Div, api.And, api.Or, api.Xor, api.Shl, api.Shr} {
		for _, n := range []int{0, 1, -1, 4, 32, math.MaxInt32} {
			comes(t, op, aplace(1, 4), anumber(n), Value{}, api.TrapMix)
			comes(t, op, anumber(n), aplace(1, 4), Value{}, api.TrapMix)
		}
		for _, n := range []int{0, 4, 80} {
			comes(t, op, aplace(1, 4), aplace(1, n), Value{}, api.TrapMix)
			comes(t, op, aplace(1, 0), aplace(2, n), Value{}, api.TrapMix)
			comes(t, op, aplace(3, 4), aplace(1, n), Value{}, api.TrapMix)
		}
	}
	for _, x := range []struct{ op, x, y, want, trap int }{
		{api.Mul, 70000, 70000, 605032704, 0},
		{api.Div, -7, 2, -3, 0},
		{api.Div, 7, 0, 0, api.TrapDivide},
		{api.Div, 0, 0, 0, api.TrapDivide},
		{api.Div, math.MinInt32, -1, math.MinInt32, 0},
		{api.And, -4, 7, 4, 0},
		{api.Or, -8, 3, -5, 0},
		{api.Xor, -1, 5, -6, 0},
		{api.Shl, 3, 33, 6, 0},
		{api.Shl, 1, 31, math.MinInt32, 0},
		{api.Shr, -8, 1, -4, 0},
	} {
		comes(t, x.op, anumber(x.x), anumber(x.y), anumber(x.want), x.trap)
	}
}

// Same, Other, Less of a place and a number: only of 0 it is known that it isn't the same.
func TestP22_2PlaceAndNumber(t *testing.T) {
	for _, place := range []Value{{1, 0}, {1, 4}, {1, 80}, {2, 0}, {3, 8}} {
		jumps(t, api.Same, place, anumber(0), 0, 0)
		jumps(t, api.Same, anumber(0), place, 0, 0)
		jumps(t, api.Other, place, anumber(0), 1, 0)
		jumps(t, api.Other, anumber(0), place, 1, 0)
		jumps(t, api.Less, place, anumber(0), 0, api.TrapMix)
		jumps(t, api.Less, anumber(0), place, 0, api.TrapMix)
		for _, n := range []int{1, -1, 4, 271, 272, place.N, 65536, math.MaxInt32, math.MinInt32} {
			if n == 0 {
				continue
			}
			for _, op := range []int{api.Same, api.Other, api.Less} {
				jumps(t, op, place, anumber(n), 0, api.TrapMix)
				jumps(t, op, anumber(n), place, 0, api.TrapMix)
			}
		}
		jumps(t, api.Jump, place, anumber(5), 1, 0)
		jumps(t, api.Jump, anumber(-1), place, 1, 0)
	}
}

// Same, Other, Less of two places, and of two numbers.
func TestP22_2TwoOfAKind(t *testing.T) {
	met := func(ok bool) int {
		if ok {
			return 1
		}
		return 0
	}
	for _, x := range []struct{ a, b int }{{0, 0}, {4, 4}, {80, 80}, {0, 4}, {4, 0}, {0, 80}, {80, 0}, {5, 6}, {6, 5}} {
		for _, mod := range []int{0, 1, 2, 3} {
			a, b := aplace(mod, x.a), aplace(mod, x.b)
			jumps(t, api.Same, a, b, met(x.a == x.b), 0)
			jumps(t, api.Other, a, b, met(x.a != x.b), 0)
			jumps(t, api.Less, a, b, met(x.a < x.b), 0)
			jumps(t, api.Jump, a, b, 1, 0)
		}
		for _, mods := range [][2]int{{1, 2}, {2, 1}, {1, 3}, {3, 2}} {
			a, b := aplace(mods[0], x.a), aplace(mods[1], x.b)
			jumps(t, api.Same, a, b, 0, api.TrapMix)
			jumps(t, api.Other, a, b, 0, api.TrapMix)
			jumps(t, api.Less, a, b, 0, api.TrapMix)
			jumps(t, api.Jump, a, b, 1, 0)
		}
	}
	for _, x := range []struct{ a, b int }{{-1, 1}, {math.MinInt32, math.MaxInt32}, {-1, 0}, {-5, -4}, {7, 65536}} {
		jumps(t, api.Less, anumber(x.a), anumber(x.b), 1, 0)
		jumps(t, api.Less, anumber(x.b), anumber(x.a), 0, 0)
		jumps(t, api.Same, anumber(x.a), anumber(x.b), 0, 0)
		jumps(t, api.Other, anumber(x.a), anumber(x.b), 1, 0)
	}
}

// Set of what is referred to is a place: of each kind of export, its own and another one's, and of its own text.
func TestP22_2Set(t *testing.T) {
	for mod := range 3 {
		number := mod
		if mod == 0 {
			number = 3
		}
		for _, x := range []struct{ which, ent, n int }{
			{addresses, itsData, 0}, {addresses, itsWord, 8}, {addresses, itsCode, 64}, {types, itsType, 24}, {types, itsLast, 40},
		} {
			p := prober().ref(x.which, 1, mod, x.ent).keep(1, result).back()
			probe(t, p).is(3, 0, enough, done(4)).has(3, append(numbers(0, 0, 0, 0, 0), aplace(number, x.n))...)
		}
	}
	for at := range 6 {
		p := prober().ref(addresses, 1, 15, at).keep(1, result).back()
		probe(t, p).is(3, 0, enough, done(4)).has(3, append(numbers(0, 0, 0, 0, 0), aplace(3, 56+at))...)
	}
	// Where there is no text, its end is where the code begins.
	x := unit("A").data(1).export(api.Var, 0).ref(addresses, 1, 15, 0).keep(1, 0).back()
	newRig(t, twoWays()...).adds(x).is(1, 0, enough, done(4)).has(1, aplace(1, 4))
	// A Set in no chain is its number, also if that looks like a reference.
	for _, n := range []int{0, 1 << 6, 131071, -131072, -1} {
		p := prober().ins(api.Set, 1, 0, n).keep(1, result).back()
		probe(t, p).is(3, 0, enough, done(4)).has(3, numbers(0, 0, 0, 0, 0, n)...)
	}
}
