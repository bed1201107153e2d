package symbol

import (
	"dowel/api"
	"math"
	"strconv"
	"testing"
)

// P22.1: a world without modules.
func TestP22_1NoModules(t *testing.T) {
	g := newRig(t)
	for _, mod := range []int{math.MinInt, -1, 0, 1, 2, math.MaxInt} {
		g.is(mod, 0, enough, trapped(api.TrapJump, 0)).has(mod)
	}
	if n, ok := g.w.Where(Value{Mod: 1}, nil); n != 0 || ok {
		t.Errorf("Where = %d, %v", n, ok)
	}
}

// P22.1: numbers rise from 1 on, also behind errors, and also where the same is added again.
func TestP22_1NumbersRise(t *testing.T) {
	g := newRig(t)
	for i := range 40 {
		g.fails(api.ErrForm, unit("A").spoil()).fails(api.ErrArg, unit("A"), 1).fails(api.ErrArg, unit("A", "B"))
		if n := g.add(unit("A").data(i)); n != 1+i {
			t.Fatalf("the number is %d, want %d", n, 1+i)
		}
		if l := g.w.Data(1 + i); len(l) != i {
			t.Fatalf("there are %d words, want %d", len(l), i)
		}
	}
	if n, err := New().Add(target("A").o, nil); n != 1 || err != nil {
		t.Errorf("in another world: %d, %v", n, err)
	}
}

// P22.1: ErrForm of what may not be a module.
func TestP22_1NoModule(t *testing.T) {
	g := newRig(t).adds(target("A"))
	turns := []func(o *api.Object){
		func(o *api.Object) { *o = api.Object{} },
		func(o *api.Object) { o.Name = "" },
		func(o *api.Object) { o.Name = "2" },
		func(o *api.Object) { o.Imports[0].Name = "B" },
		func(o *api.Object) { o.Data = -1 },
		func(o *api.Object) { o.Data = 65 },
		func(o *api.Object) { o.Data = math.MaxInt },
		func(o *api.Object) { o.Code = nil },
		func(o *api.Object) { o.Code = make([]uint32, 257) },
		func(o *api.Object) { o.Types[0].Size = 6 },
		func(o *api.Object) { o.Types[0].Base = 0 },
		func(o *api.Object) { o.Types[0].Mod = 2 },
		func(o *api.Object) { o.Exports[0].At = 6 },
		func(o *api.Object) { o.Exports[0].Kind = 3 },
		func(o *api.Object) { o.Ptrs = []int{0, 6} },
		func(o *api.Object) { o.Procs = []int{0} },
		func(o *api.Object) { o.Body = 5 },
		func(o *api.Object) { o.Fix[0] = 1 },
		func(o *api.Object) { o.Fix[1] = -1 },
		func(o *api.Object) { o.Cmds = []api.Entry{{Name: "Run", At: 4}} },
	}
	for i, turn := range turns {
		o := target("B").o
		o.Imports = []api.Import{{Name: "A", Key: keyOf("A")}}
		turn(&o)
		// Imports that are wrong, too, make no difference: what may not be a module is asked first.
		for _, imports := range [][]int{{1}, nil, {2}, {1, 1}} {
			if n, err := g.w.Add(o, imports); n != 0 || !sameError(err, api.ErrForm) {
				t.Errorf("%d: Add with %v = %d, %v", i, imports, n, err)
			}
		}
	}
	if n := g.add(target("B")); n != 2 {
		t.Errorf("behind these the number is %d", n)
	}
}

// P22.1: ErrArg of imports that are others in number, or no modules' numbers.
func TestP22_1Imports(t *testing.T) {
	g := newRig(t).adds(target("A"), target("B"))
	for _, imports := range [][]int{{1}, {1, 1, 1}, {}, nil, {0, 1}, {1, 0}, {-1, 1}, {1, -1}, {1, 3}, {3, 1}, {4, 1}, {1, math.MaxInt}, {math.MinInt, 1}, {1, 1 << 32}, {2, 1 + 1<<32}} {
		g.fails(api.ErrArg, unit("C", "A", "B"), imports...)
		// What can't be linked, too, is asked behind that.
		g.fails(api.ErrArg, unit("C", "A", "B").key(7).ref(calls, 1, 1, 9), imports...)
		g.fails(api.ErrArg, tower("C", 5, "A", "B"), imports...)
	}
	g.fails(api.ErrArg, unit("C"), 1).fails(api.ErrArg, unit("C"), 0).fails(api.ErrArg, unit("C"), 1, 2)
	if n := g.add(unit("C", "A", "B"), 1, 2); n != 3 {
		t.Errorf("the number is %d", n)
	}
	// Its own number is that of a module only from now on.
	g.fails(api.ErrArg, unit("D", "C"), 4)
	g.add(unit("D", "C"), 3)
}

// tower is a module with so many types, each of which extends the one ahead of it.
func tower(name string, types int, imports ...string) *source {
	x := unit(name, imports...)
	for i := range types {
		x.rec(4*i, 0, i-1)
	}
	for i := range types {
		x.export(api.Rec, i)
	}
	return x
}

// P22.1: ErrForm of an import whose key is another module's, or none's.
func TestP22_1Keys(t *testing.T) {
	g := newRig(t).adds(target("A"), target("B"))
	g.fails(api.ErrForm, unit("C", "A", "B"), 2, 1).fails(api.ErrForm, unit("C", "A", "B"), 1, 1).fails(api.ErrForm, unit("C", "A"), 2)
	x := unit("C", "A", "B")
	x.o.Imports[1].Key++
	g.fails(api.ErrForm, x, 1, 2)
	x.o.Imports[1].Key = 0
	g.fails(api.ErrForm, x, 1, 2)
	x.o.Imports[1].Key = keyOf("B")
	g.add(x, 1, 2)
}

// P22.1: modules go by their numbers: two may have one name, and one may be imported twice.
func TestP22_1NamesMakeNoDifference(t *testing.T) {
	g := newRig(t)
	a, other := unit("A").data(1).export(api.Var, 0), unit("A").data(2).export(api.Var, 1)
	g.add(a)
	g.add(other)
	twice := unit("C", "A", "B").data(1).export(api.Var, 0).ref(addresses, 1, 1, 0).ref(addresses, 2, 2, 0).ins(api.Sub, 3, 1, 2).keep(3, 0).back()
	twice.o.Imports[1].Key = keyOf("A")
	g.add(twice, 2, 2)
	g.is(3, 0, enough, done(6))
	apart := unit("C", "A", "B").data(1).export(api.Var, 0).ref(addresses, 1, 2, 0).keep(1, 0).back()
	apart.o.Imports[1].Key = keyOf("A")
	g.add(apart, 2, 1)
	g.is(4, 0, enough, done(4)).has(4, Value{1, 0})
	g.add(apart, 1, 2)
	g.is(5, 0, enough, done(4)).has(5, Value{2, 4})
}

// P22.1: ErrForm of references to what an import hasn't, or has of another kind.
func TestP22_1References(t *testing.T) {
	kinds := map[int][]int{calls: {api.Proc}, addresses: {api.Proc, api.Var}, types: {api.Rec}}
	for which := range 3 {
		for ent := range 7 {
			g := newRig(t, nil).adds(unit("N"), target("A"))
			x := unit("B", "N", "A").ref(calls, 1, 2, itsCode).ref(addresses, 1, 2, itsData).ref(types, 1, 2, itsType)
			x.ref(which, 1, 2, ent).ref(addresses, 1, 2, itsWord).back()
			fits := false
			if ent < 5 {
				kind := []int{api.Var, api.Proc, api.Rec, api.Rec, api.Var}[ent]
				for _, k := range kinds[which] {
					fits = fits || k == kind
				}
			}
			if fits {
				g.add(x, 1, 2)
				continue
			}
			g.fails(api.ErrForm, x, 1, 2)
			// The first one of the imports has nothing at all.
			g.fails(api.ErrForm, unit("B", "N", "A").ref(which, 1, 1, 0), 1, 2)
		}
	}
	x := unit("A").export(api.Proc, 0).back()
	for range 62 {
		x.export(api.Proc, 0)
	}
	g := newRig(t, nil).adds(x)
	g.fails(api.ErrForm, unit("B", "A").ref(calls, 1, 1, 63), 1)
	g.add(unit("B", "A").ref(calls, 1, 1, 62), 1)
}

// P22.1: ErrForm of types that extend what an import hasn't, what is no type, or too much.
func TestP22_1Types(t *testing.T) {
	for ent := range 66 {
		g := newRig(t, nil).adds(target("A"))
		x := unit("B", "A").rec(4, 1, ent)
		switch {
		case ent == itsType || ent == itsLast:
			g.add(x, 1)
		case ent < 64:
			g.fails(api.ErrForm, x, 1)
		}
	}
	// A type extends at most three.
	for own := range 6 {
		for theirs := range 5 {
			g := newRig(t, nil).adds(tower("A", 4))
			x := tower("B", own, "A")
			if theirs > 0 && own > 0 {
				x.o.Types[0] = api.Type{Size: 4, Mod: 1, Base: theirs - 1}
			}
			if own == 0 || own+theirs <= 4 {
				g.add(x, 1)
			} else {
				g.fails(api.ErrForm, x, 1)
			}
		}
	}
	// Behind an error a type has no more than it would have had.
	g := newRig(t, nil).adds(tower("A", 4))
	for range 3 {
		g.fails(api.ErrForm, tower("B", 5)).fails(api.ErrForm, tower("B", 4).ref(calls, 1, 1, 3).spoil())
		g.fails(api.ErrForm, tower("B", 4, "A").ref(types, 1, 1, 4), 1)
	}
	x := tower("B", 2, "A").data(1).export(api.Var, 0)
	x.o.Types[0] = api.Type{Size: 4, Mod: 1, Base: 1}
	x.ref(types, 1, 0, 1).ins(api.Load, 2, 1, 12).ref(addresses, 3, 0, 2).ins(api.Store, 2, 3, 0).back()
	g.add(x, 1)
	g.is(2, 0, enough, done(5)).has(2, Value{2, 4})
}

// P22.1: descriptors are known: the size, and the places of types, the outermost first, of whichever modules.
func TestP22_1Descriptors(t *testing.T) {
	g := newRig(t, twoWays()...)
	g.add(unit("A").data(1).rec(4, 0, -1).rec(256, 0, 0).export(api.Rec, 1).export(api.Rec, 0).text("ab").export(api.Var, 0))
	g.add(unit("B", "A").data(2).rec(0, 0, -1).rec(8, 1, 0).rec(12, 0, 1).rec(16, 1, 1).export(api.Rec, 2).export(api.Rec, 1).export(api.Var, 0), 1)
	g.add(unit("C", "B", "A").rec(20, 1, 1).rec(24, 2, 0).rec(28, 0, 1).export(api.Rec, 0), 2, 1)
	want := [][]Value{
		append(append(numbers(4, 0, 0, 0, 256), Value{1, 4}), numbers(0, 0)...),
		{{0, 0}, {}, {}, {}, {0, 8}, {1, 4}, {1, 20}, {}, {0, 12}, {1, 4}, {1, 20}, {2, 24}, {0, 16}, {1, 4}, {}, {}},
		{{0, 20}, {1, 4}, {1, 20}, {2, 24}, {0, 24}, {1, 4}, {1, 20}, {}, {0, 28}, {1, 4}, {1, 20}, {3, 16}},
	}
	for i, l := range want {
		from := []int{4, 8, 0}[i]
		for k, v := range l {
			// The module that loads it refers to the types' module by the first type that that exports.
			ent, first := []int{1, 0, 0}[i], []int{4, 40, 0}[i]
			x := unit("D", "A", "B", "C").data(1).export(api.Var, 0)
			x.ref(types, 1, 1+i, ent).ins(api.Load, 2, 1, from+4*k-first).keep(2, 0).back()
			n := g.addAgain(x, 1, 2, 3)
			g.is(n, 0, enough, done(5)).has(n, v)
		}
	}
}

// addAgain adds a module of which there may be one already, of another name.
func (g *rig) addAgain(x *source, imports ...int) int {
	g.t.Helper()
	if len(g.p.mods) == api.MaxModules {
		// The machines have no room for more.
		g.machines = nil
	}
	x.o.Name += strconv.Itoa(len(g.p.mods))
	return g.add(x, imports...)
}
