package symbol

import (
	"dowel/api"
	"math"
	"testing"
)

// The chapter's example: Set of its own data, Load there.
func TestP22_2Example(t *testing.T) {
	x := unit("A").data(1).export(api.Var, 0)
	x.ref(addresses, 1, 0, 0).ins(api.Load, 2, 1, 0).ins(api.Same, 2, 0, 1).none().back()
	g := newRig(t, twoWays()...).adds(x)
	g.is(1, 0, enough, done(4)).has(1, Value{})
}

// P22.2: of no such module, or no such place, TrapJump, whatever fuel there is.
func TestP22_2NoSuchPlace(t *testing.T) {
	g := newRig(t, twoWays()...).adds(target("A"), unit("B").fill(255).back())
	for _, fuel := range []int{math.MinInt, -1, 0, 1, 2000, math.MaxInt} {
		for _, mod := range []int{math.MinInt, -1, 0, 3, 4, 1 << 32, 1<<32 + 1, math.MaxInt} {
			for _, at := range []int{0, 2, -1} {
				g.is(mod, at, fuel, trapped(api.TrapJump, 0))
			}
		}
		for _, at := range []int{math.MinInt, -1 << 62, -4, -1, 4, 5, 8, 255, 256, 1 << 30, 1 << 62, 1<<62 + 2, math.MaxInt} {
			g.is(1, at, fuel, trapped(api.TrapJump, 0))
		}
		for _, at := range []int{-1, 256, 257} {
			g.is(2, at, fuel, trapped(api.TrapJump, 0))
		}
	}
	g.is(1, 0, enough, done(3)).is(1, 1, enough, done(2)).is(1, 2, enough, done(1)).is(1, 3, enough, trapped(api.TrapCode, 0))
	g.is(2, 0, enough, done(256)).is(2, 255, enough, done(1))
}

// P22.2: ahead of the first step all registers are 0, but 14, StackTo, and 15, the end; also behind a call.
func TestP22_2Registers(t *testing.T) {
	x := unit("A").data(16).export(api.Var, 0)
	for reg := range 16 {
		// To tell one, another one is needed.
		other := (reg + 1) % 16
		x.ref(addresses, other, 0, 0).ins(api.Store, reg, other, 4*reg).none()
	}
	g := newRig(t, twoWays()...).adds(x)
	for range 2 {
		for reg := range 16 {
			g.is(1, 3*reg, enough, trapped(api.TrapCode, 2))
		}
	}
	want := numbers(0, 0, 0, 0, 0, 0, 0, 0, 0, 0, 0, 0, 0, 0, 272, -4)
	g.has(1, want...)
}

// P22.2: fuel that ends at each step, and beyond.
func TestP22_2FuelEndsAtEachStep(t *testing.T) {
	x := unit("A").data(4).export(api.Var, 0).ref(addresses, 1, 0, 0)
	for i := range 4 {
		x.ins(api.Set, 2, 0, 10+i).ins(api.Store, 2, 1, 4*i)
	}
	x.back()
	for fuel := -1; fuel < 13; fuel++ {
		g := newRig(t, twoWays()...).adds(x)
		want := spent(max(fuel, 0))
		if fuel >= 10 {
			want = done(10)
		}
		g.is(1, 0, fuel, want)
		var data []Value
		for i := range 4 {
			v := Value{N: 10 + i}
			if fuel < 3+2*i {
				v = Value{}
			}
			data = append(data, v)
		}
		g.has(1, data...)
	}
}

// P22.2: there is never fuel for more than 2000 steps.
func TestP22_2MostFuel(t *testing.T) {
	for _, count := range []int{1998, 1999, 2000, 2001} {
		// Register 1 counts down, in two steps each.
		x := unit("A").ins(api.Set, 1, 0, (count-2)/2).ins(api.More, 1, 1, -1).ins(api.Other, 1, 0, -2)
		if count%2 == 1 {
			x.ins(api.Set, 1, 0, 0)
		}
		x.back()
		for _, fuel := range []int{0, 1, count - 1, count, count + 1, 1999, 2000, 2001, math.MaxInt32, math.MaxInt} {
			g := newRig(t, nil).adds(x)
			want := done(count)
			if most := min(fuel, 2000); most < count {
				want = spent(most)
			}
			g.is(1, 0, fuel, want)
		}
	}
	g := newRig(t, nil).adds(unit("A").ins(api.Jump, 0, 0, -1))
	for _, fuel := range []int{math.MinInt, math.MinInt32, -1, 0} {
		g.is(1, 0, fuel, spent(0))
	}
	g.is(1, 0, math.MaxInt, spent(2000))
}

// P22.2: what code did to data, and to the stack, stays for the next call.
func TestP22_2DataStay(t *testing.T) {
	x := unit("A").data(2).export(api.Var, 0)
	x.ref(addresses, 1, 0, 0).ins(api.Load, 2, 1, 0).ins(api.More, 2, 2, 3).ins(api.Store, 2, 1, 0)
	x.ins(api.Load, 3, 14, -4).ins(api.Same, 3, 0, 1).ins(api.Store, 3, 1, 4).ins(api.More, 4, 1, 8).ins(api.Store, 4, 14, -4).back()
	g := newRig(t, twoWays()...).adds(x)
	g.is(1, 0, enough, done(9)).has(1, Value{N: 3}, Value{})
	g.is(1, 0, enough, done(10)).has(1, Value{N: 6}, Value{1, 8})
	g.is(1, 0, 4, spent(4)).has(1, Value{N: 9}, Value{1, 8})
	g.is(1, 2, enough, trapped(api.TrapRange, 1)).has(1, Value{N: 9}, Value{1, 8})
	// Another world has nothing of it.
	newRig(t, nil).adds(x).has(1, Value{}, Value{})
	// Nor has another module of this one.
	y := unit("B").data(2).export(api.Var, 0)
	y.o.Code, y.o.Fix, y.refs = x.o.Code, x.o.Fix, x.refs
	g.add(y)
	g.has(2, Value{}, Value{}).is(2, 0, enough, done(10)).has(2, Value{N: 3}, Value{1, 8}).has(1, Value{N: 9}, Value{1, 8})
}

// P22.2: Data are those of a module, in order; none of one that isn't there; also behind what trapped.
func TestP22_2Data(t *testing.T) {
	g := newRig(t, twoWays()...)
	for words := range 4 {
		x := unit("M"+string(rune('A'+words))).data(words).text("abcd").rec(4, 0, -1).export(api.Proc, 0)
		if words > 0 {
			x.export(api.Var, words-1).ref(addresses, 1, 0, 1).ref(types, 2, 0, 2).ins(api.Store, 1, 1, 0).ins(api.Set, 3, 0, 5).ins(api.StorB, 3, 1, 1)
		}
		x.export(api.Rec, 0).none()
		g.add(x)
	}
	g.has(1).has(2, Value{}).has(3, numbers(0, 0)...).has(4, numbers(0, 0, 0)...)
	g.is(2, 0, enough, trapped(api.TrapMix, 4)).has(2, Value{2, 0}).has(3, numbers(0, 0)...)
	g.is(3, 0, enough, trapped(api.TrapMix, 4)).has(3, Value{}, Value{3, 4}).has(1)
	g.is(4, 0, enough, trapped(api.TrapMix, 4)).has(4, Value{}, Value{}, Value{4, 8})
	g.is(1, 0, enough, trapped(api.TrapCode, 0))
	for _, mod := range []int{math.MinInt, -1, 0, 5, 6, 1<<32 + 2, math.MaxInt} {
		g.has(mod)
	}
	most := newRig(t, nil).adds(unit("A").data(64).export(api.Var, 63).ref(addresses, 1, 0, 0).ins(api.Store, 1, 1, 0).back())
	want := make([]Value, 64)
	most.has(1, want...)
	want[63] = Value{1, 252}
	most.is(1, 0, enough, done(3)).has(1, want...)
}

// P22.2: Where is a number itself, or a base and so many bytes.
func TestP22_2Where(t *testing.T) {
	g := newRig(t).adds(target("A"), target("B"))
	bases := []int{272, 4000, 65532}
	for _, x := range []struct {
		v     Value
		bases []int
		want  int32
		ok    bool
	}{
		{Value{}, nil, 0, true},
		{Value{N: 1}, bases, 1, true},
		{Value{N: -4}, nil, -4, true},
		{Value{N: math.MaxInt32}, []int{}, math.MaxInt32, true},
		{Value{N: math.MinInt32}, bases, math.MinInt32, true},
		{Value{1, 0}, bases, 272, true},
		{Value{1, 80}, bases, 352, true},
		{Value{2, 4}, bases, 4004, true},
		{Value{2, 4}, bases[:2], 4004, true},
		{Value{2, 4}, bases[:1], 0, false},
		{Value{1, 4}, bases[:1], 276, true},
		{Value{1, 4}, bases[:0], 0, false},
		{Value{1, 0}, nil, 0, false},
		{Value{2, 0}, nil, 0, false},
		// What bases there are is all that is asked.
		{Value{3, 8}, bases, 65540, true},
		{Value{4, 0}, bases, 0, false},
		{Value{-1, 0}, bases, 0, false},
		{Value{math.MinInt, 5}, bases, 0, false},
		{Value{math.MaxInt, 5}, bases, 0, false},
		{Value{1, 7}, []int{0}, 7, true},
	} {
		for range 2 {
			if n, ok := g.w.Where(x.v, x.bases); n != x.want || ok != x.ok {
				t.Errorf("Where(%v, %v) = %d, %v, want %d, %v", x.v, x.bases, n, ok, x.want, x.ok)
			}
		}
	}
	if bases[0] != 272 || bases[1] != 4000 || bases[2] != 65532 {
		t.Errorf("the bases are %v", bases)
	}
}
