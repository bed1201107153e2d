package load

import (
	"dowel/api"
	"math"
	"math/rand"
	"slices"
	"strconv"
	"testing"
)

func trapped(trap, steps int) api.Outcome {
	return api.Outcome{End: api.Trapped, Trap: trap, Steps: steps}
}

func out(steps int) api.Outcome { return api.Outcome{End: api.Fuel, Steps: steps} }

// A module without a body is loaded with any fuel, whatever its code is.
func TestP20_2NoBody(t *testing.T) {
	x := module("A").ins(0, 0, 0, 0).ins(api.Jump, 0, 0, -1)
	for _, fuel := range []int{math.MinInt, -1, 0, 1, 2000, math.MaxInt} {
		g := newRig(t, 1024, 1, x)
		if o, err := g.load("A", fuel); err != nil || o != (api.Outcome{}) {
			t.Errorf("Load with fuel %d: %+v, %v", fuel, o, err)
		}
	}
}

// With a body that is done nothing of what it came to is told.
func TestP20_2ABodyThatIsDone(t *testing.T) {
	x := module("A").data(1).export(api.Var, 0)
	x.ins(0, 0, 0, 0).body().ins(api.Set, 1, 0, 4711).ref(addresses, 2, 0, 0).ins(api.Store, 1, 2, 0).back()
	for _, fuel := range []int{4, 5, 2000, 2001, math.MaxInt} {
		g := newRig(t, 1024, 1, x)
		if o, err := g.load("A", fuel); err != nil || o != (api.Outcome{}) {
			t.Errorf("Load with fuel %d: %+v, %v", fuel, o, err)
		}
		g.words(272, 4711)
	}
}

// The body begins where it is told, the last instruction too.
func TestP20_2WhereABodyBegins(t *testing.T) {
	for at := range 6 {
		x := module("A").data(1).text("hello").rec(0, 0, -1)
		for range 5 {
			x.ins(api.More, 1, 1, 1)
		}
		x.ins(0, 0, 0, 0)
		x.o.Body = at + 1
		g := newRig(t, 1024, 1, x)
		g.ends("A", enough, api.ErrTrap, trapped(api.TrapCode, 5-at))
	}
}

func TestP20_2ABodyThatTraps(t *testing.T) {
	for _, c := range []struct {
		trap int
		code []uint32
	}{
		{api.TrapCode, []uint32{0}},
		{api.TrapCode, []uint32{word(22, 0, 0, 0)}},
		{api.TrapRange, []uint32{word(api.Load, 1, 0, 0)}},
		{api.TrapRange, []uint32{word(api.Store, 1, 0, 272+20)}},
		{api.TrapRange, []uint32{word(api.Store, 1, 0, 272+16+4*5)}},
		{api.TrapAlign, []uint32{word(api.Load, 1, 0, 18)}},
		{api.TrapDivide, []uint32{word(api.Div, 1, 1, 0)}},
		{api.TrapJump, []uint32{word(api.Go, 0, 0, 0)}},
		{api.TrapJump, []uint32{word(api.Jump, 0, 0, 5)}},
		{api.TrapPointer, []uint32{word(api.Store, 15, 0, 276)}},
		{api.TrapPointer, []uint32{word(api.StorB, 0, 0, 277)}},
	} {
		for _, steps := range []int{0, 1, 3} {
			x := module("A").data(5).ptrs(1).rec(4, 0, -1)
			x.body()
			for range steps {
				x.ins(api.More, 9, 9, 1)
			}
			want := trapped(c.trap, steps)
			if c.trap == api.TrapJump {
				// The step ahead of it is done.
				want.Steps++
			}
			x.o.Code = append(x.o.Code, c.code...)
			g := newRig(t, 1024, 1, x.back())
			g.ends("A", enough, api.ErrTrap, want)
		}
	}
}

func TestP20_2ABodyWithoutFuel(t *testing.T) {
	x := module("A").body()
	for range 4 {
		x.ins(api.More, 1, 1, 1)
	}
	x.back()
	for _, c := range []struct{ fuel, steps int }{{math.MinInt, 0}, {-2000, 0}, {-1, 0}, {0, 0}, {1, 1}, {3, 3}, {4, 4}} {
		newRig(t, 1024, 1, x).ends("A", c.fuel, api.ErrFuel, out(c.steps))
	}
	endless := module("A").body().ins(api.Jump, 0, 0, -1)
	for _, c := range []struct{ fuel, steps int }{{math.MinInt, 0}, {-1, 0}, {0, 0}, {1, 1}, {1999, 1999}, {2000, 2000}, {2001, 2000}, {1 << 40, 2000}, {math.MaxInt, 2000}} {
		newRig(t, 1024, 1, endless).ends("A", c.fuel, api.ErrFuel, out(c.steps))
	}
}

// Fuel is each body's own: what one took doesn't lack another one.
func TestP20_2EachBodyHasFuel(t *testing.T) {
	idle := func(x *source, steps int) *source {
		x.body()
		for range steps - 1 {
			x.ins(api.More, 1, 1, 1)
		}
		return x.back()
	}
	g := newRig(t, 1024, 4, idle(module("A", "B", "C"), 7), idle(module("B", "C"), 9), idle(module("C"), 8))
	for fuel := range 12 {
		switch {
		case fuel < 9:
			// C's comes first.
			g.ends("A", fuel, api.ErrFuel, out(fuel))
		default:
			if o, err := g.load("A", fuel); err != nil || o != (api.Outcome{}) {
				t.Errorf("with fuel %d: %+v, %v", fuel, o, err)
			}
			g.removes("A", "B", "C")
		}
	}
	g = newRig(t, 65536, 4, loop("A", 1990, "B"), loop("B", 1998, "C"), loop("C", 2000))
	g.ends("A", 1999, api.ErrFuel, out(1999))
	g.loads2000("A")
}

// loop is a module whose body is done behind so many steps, an even number.
func loop(name string, steps int, imports ...string) *source {
	return module(name, imports...).body().ins(api.Set, 1, 0, (steps-2)/2).ins(api.More, 1, 1, -1).ins(api.Other, 1, 0, -2).back()
}

// loads2000 loads one with the most fuel that there may be.
func (g *rig) loads2000(name string) {
	g.t.Helper()
	if o, err := g.load(name, math.MaxInt); err != nil || o != (api.Outcome{}) {
		g.t.Fatalf("Load(%q) with the most fuel: %+v, %v", name, o, err)
	}
}

// book is a module that has room for entries: how many there are, and each of them.
func book() *source { return module("Book").data(40).export(api.Var, 0) }

// scribe is a module whose body enters a number into the book, which is to be its first import.
func scribe(name string, number int, imports ...string) *source {
	x := module(name, append([]string{"Book"}, imports...)...).body()
	x.ref(addresses, 1, 1, 0).ins(api.Load, 2, 1, 0).ins(api.Set, 3, 0, 2).ins(api.Shl, 4, 2, 3).ins(api.Add, 5, 1, 4)
	return x.ins(api.Set, 6, 0, number).ins(api.Store, 6, 5, 4).ins(api.More, 2, 2, 1).ins(api.Store, 2, 1, 0).back()
}

// entries are what is in the book.
func (g *rig) entries() []int {
	base, l := g.base("Book"), []int{}
	for i := range g.word(base) {
		l = append(l, g.word(base+4+4*i))
	}
	return l
}

// T5: each body is run once, behind those of all that it imports.
func TestT5OrderOfBodies(t *testing.T) {
	g := newRig(t, 2048, 16, book(),
		scribe("A", 1, "B", "C", "D"), scribe("B", 2, "D", "E"), scribe("C", 3, "B"), scribe("D", 4), scribe("E", 5, "D"), scribe("F", 6, "A", "E"))
	g.loads("A")
	if l := g.entries(); !slices.Equal(l, []int{4, 5, 2, 3, 1}) {
		t.Errorf("the bodies were run as %v", l)
	}
	// What is loaded is run no more.
	g.loads("A", "B", "E", "F")
	if l := g.entries(); !slices.Equal(l, []int{4, 5, 2, 3, 1, 6}) {
		t.Errorf("the bodies were run as %v", l)
	}
	// What is loaded again is run again.
	g.removes("F", "A", "C").loads("C", "A")
	if l := g.entries(); !slices.Equal(l, []int{4, 5, 2, 3, 1, 6, 3, 1}) {
		t.Errorf("the bodies were run as %v", l)
	}
}

// T5: with an error, bodies that came ahead of it were run, none behind it.
func TestT5OrderOfBodiesWithAnError(t *testing.T) {
	names := []string{"A", "B", "C", "D", "E"}
	for at := range names {
		g := newRig(t, 2048, 16, book()).loads("Book")
		for i, s := range names {
			x := scribe(s, i, names[i+1:min(i+2, 5)]...)
			if i == at {
				x.o.Code[x.here()-1] = 0
			}
			g.put(x)
		}
		if o, err := g.load("A", enough); err != error(api.ErrTrap) || o != trapped(api.TrapCode, 9) {
			t.Fatalf("Load: %+v, %v", o, err)
		}
		want := []int{4, 3, 2, 1, 0}[:5-at]
		if l := g.entries(); !slices.Equal(l, want) {
			t.Errorf("the bodies were run as %v, want %v", l, want)
		}
		if names := g.s.Table().Names(); !slices.Equal(names, []string{"Book"}) {
			t.Errorf("the modules are %q", names)
		}
		// Then they are run again.
		g.put(scribe(names[at], at, names[at+1:min(at+2, 5)]...))
		g.loads("A")
		if l := g.entries(); !slices.Equal(l, append(want, 4, 3, 2, 1, 0)) {
			t.Errorf("the bodies were run as %v", l)
		}
	}
}

// T5, of any modules that import any others.
func TestT5AnyOrderOfBodies(t *testing.T) {
	r := rand.New(rand.NewSource(205))
	for range 300 {
		g := newRig(t, 2048, 16, book())
		count := 1 + r.Intn(12)
		imports := map[int][]int{}
		for i := range count {
			names := []string{}
			for k := i + 1; k < count && len(names) < 7; k++ {
				if r.Intn(3) == 0 && k-i < 4 {
					names = append(names, "M"+strconv.Itoa(k))
					imports[i] = append(imports[i], k)
				}
			}
			r.Shuffle(len(names), func(a, b int) { names[a], names[b] = names[b], names[a] })
			g.put(scribe("M"+strconv.Itoa(i), i, names...))
		}
		g.loads("Book")
		for range 4 {
			g.load("M"+strconv.Itoa(r.Intn(count)), enough)
		}
		l := g.entries()
		for i, number := range l {
			for _, k := range imports[number] {
				if at := slices.Index(l, k); at < 0 || at > i {
					t.Fatalf("the bodies were run as %v, of %v", l, imports)
				}
			}
			if slices.Index(l, number) != i {
				t.Fatalf("the bodies were run as %v", l)
			}
		}
		if len(l) != len(g.p.mods)-1 {
			t.Fatalf("of %d bodies %d were run", len(g.p.mods)-1, len(l))
		}
	}
}

// A body meets all that it imports, and its own.
func TestP20_2WhatABodyMeets(t *testing.T) {
	b := module("B").data(2).procs(0).export(api.Proc, 0).export(api.Var, 0).ins(api.More, 7, 7, 5).ins(api.Go, 13, 0, 0)
	// It stores a procedure of B's into B's cell, calls it from there, and then its own text.
	a := module("A", "B").data(2).ptrs(1).text("xy").export(api.Var, 0)
	a.body().ref(addresses, 1, 1, 0).ref(addresses, 2, 1, 1).ins(api.Store, 1, 2, 0).ins(api.Load, 3, 2, 0).ref(addresses, 4, 0, 0).ref(addresses, 5, 15, 1)
	a.ins(api.LoadB, 6, 5, 0).ins(api.Store, 6, 4, 0).ins(api.Store, 5, 4, 4).ref(calls, 13, 1, 0).ins(api.Store, 7, 2, 4).back()
	g := newRig(t, 1024, 2, a, b).loads("A")
	g.words(g.base("B"), 280, 5).words(g.base("A"), 'y', 288+8+1)
	g.checkCells()
}

// The stack is as the code that ran ahead left it, and no declared cell.
func TestP20_2TheStackStays(t *testing.T) {
	a := module("A").data(1).body().ins(api.Store, 14, 0, 16).ins(api.Load, 1, 0, 20).ins(api.Store, 1, 0, 24).back()
	g := newRig(t, 1024, 1, a)
	g.fill(16, 272, 0x21)
	g.loads("A").words(16, 272, 0x21212121, 0x21212121, 0x21212121).removes("A")
	a = a.cloned()
	a.o.Code[3] = 0
	g.put(a)
	g.poke(20, 272)
	g.ends("A", enough, api.ErrTrap, trapped(api.TrapCode, 3)).words(16, 272, 272, 272, 0x21212121)
}
