package symbol

import (
	"dowel/api"
	"math"
	"math/rand"
	"reflect"
	"slices"
	"strings"
	"testing"
)

// spare is a copy of a list with room behind its end.
func spare[E any](l []E) []E { return append(make([]E, 0, len(l)+4), l...) }

// scribble has all of a list be something else, also what lies behind its end.
func scribble[E any](l []E, x E) {
	l = l[:cap(l)]
	for i := range l {
		l[i] = x
	}
}

// full is a module that has something of each kind.
func full() *source {
	x := unit("C", "A", "B").data(6).ptrs(0, 3).procs(1, 4).rec(8, 0, -1).rec(12, 1, itsLast).text("abcde")
	x.export(api.Var, 0).export(api.Proc, 0).export(api.Rec, 0).export(api.Rec, 1).export(api.Var, 2)
	x.o.Cmds = []api.Entry{{Name: "Run"}, {Name: "Go", At: 3}}
	x.ref(addresses, 1, 0, 0).ref(addresses, 2, 1, itsCode).ins(api.Store, 2, 1, 4).ref(types, 3, 0, itsLast).ins(api.Store, 3, 1, 0)
	x.ins(api.Load, 4, 3, 4).ins(api.Store, 4, 1, 20).ref(addresses, 5, 15, 2).ins(api.LoadB, 6, 5, 0).ins(api.Store, 6, 1, 8)
	return x.ins(api.More, 7, 15, 0).ref(calls, 15, 2, itsCode).ins(api.Go, 7, 0, 0)
}

// P22.3, R2: what was handed in may be changed, without a difference to the world.
func TestP22_3WhatWasHandedIn(t *testing.T) {
	g := newRig(t, twoWays()...).adds(target("A"), target("B"))
	o := full().object()
	o.Imports, o.Types, o.Code, o.Cmds = spare(o.Imports), spare(o.Types), spare(o.Code), spare(o.Cmds)
	o.Exports, o.Ptrs, o.Procs = spare(o.Exports), spare(o.Ptrs), spare(o.Procs)
	imports := spare([]int{1, 2})
	if n, err := g.w.Add(o, imports); n != 3 || err != nil {
		t.Fatal(n, err)
	}
	if !reflect.DeepEqual(o, full().o) || !slices.Equal(imports, []int{1, 2}) {
		t.Errorf("Add changed %+v, %v", o, imports)
	}
	for name, is := range map[string]bool{
		"imports": changed(imports[:cap(imports)][2:]), "code": changed(o.Code[:cap(o.Code)][len(o.Code):]), "types": changed(o.Types[:cap(o.Types)][len(o.Types):]),
		"exports": changed(o.Exports[:cap(o.Exports)][len(o.Exports):]), "ptrs": changed(o.Ptrs[:cap(o.Ptrs)][len(o.Ptrs):]), "procs": changed(o.Procs[:cap(o.Procs)][len(o.Procs):]),
	} {
		if is {
			t.Errorf("Add wrote behind the end of %s", name)
		}
	}
	state := g.w.state()
	scribble(o.Imports, api.Import{Name: "None"})
	scribble(o.Types, api.Type{Size: 4, Mod: 2, Base: 9})
	scribble(o.Code, 0)
	scribble(o.Cmds, api.Entry{Name: "None", At: 9})
	scribble(o.Exports, api.Export{Kind: 1, At: 3})
	scribble(o.Ptrs, 5)
	scribble(o.Procs, 2)
	scribble(imports, 3)
	if !alike(state, g.w.state()) {
		t.Errorf("the world is %+v, was %+v", g.w.state(), state)
	}
	// Beside it stands the same, of what was not changed.
	if n, err := g.p.add(full(), []int{1, 2}); n != 3 || err != nil {
		t.Fatal(n, err)
	}
	for _, m := range g.machines {
		m.load(t, full())
	}
	g.is(3, 0, enough, done(16)).has(3, aplace(3, 24+16), aplace(1, targetCode), anumber('c'), Value{}, Value{}, aplace(1, targetTypes))
	// What it exports is there for another one.
	y := unit("D", "A", "B", "C").rec(4, 3, itsType).data(6).export(api.Var, 0).ref(calls, 9, 3, itsCode).ref(types, 1, 3, itsType).back()
	g.adds(y)
	g.is(4, 1, enough, done(2)).is(4, 0, 3, spent(3))
	g.fails(api.ErrForm, unit("E", "A", "B", "C").rec(4, 3, itsLast).rec(4, 0, 0), 1, 2, 3)
}

// changed tells whether one of a list is no zero value any more.
func changed[E comparable](l []E) bool {
	var zero E
	return slices.ContainsFunc(l, func(x E) bool { return x != zero })
}

// P22.3: what Data tell is new memory, that shares none with what they tell later.
func TestP22_3DataAreNew(t *testing.T) {
	g := newRig(t, twoWays()...).adds(target("A"), target("B"), full())
	g.is(3, 0, enough, done(16))
	for mod := 1; mod <= 3; mod++ {
		want := slices.Clone(g.w.Data(mod))
		l, again := g.w.Data(mod), g.w.Data(mod)
		scribble(l, Value{2, 33})
		if !slices.Equal(again, want) || !slices.Equal(g.w.Data(mod), want) {
			t.Errorf("of %d: %v, %v, want %v", mod, again, g.w.Data(mod), want)
		}
		_ = append(again, Value{9, 9}, Value{9, 9})
		g.has(mod, want...)
	}
	g.check()
	// What was told stays as it was when code goes on.
	l := g.w.Data(3)
	was := slices.Clone(l)
	p := unit("P", "A", "B", "C").data(1).export(api.Var, 0).ref(addresses, 1, 3, 0).ins(api.Store, 0, 1, 20).back()
	g.adds(p).is(4, 0, enough, done(3))
	if !slices.Equal(l, was) {
		t.Errorf("what was told is %v, was %v", l, was)
	}
	if g.w.Data(3)[5] != (Value{}) {
		t.Error("nothing was stored")
	}
}

// P22.3: with bases nothing is done, and they aren't kept.
func TestP22_3Bases(t *testing.T) {
	g := newRig(t).adds(target("A"))
	bases := spare([]int{272, 400})
	if n, ok := g.w.Where(Value{2, 8}, bases); n != 408 || !ok {
		t.Error(n, ok)
	}
	if !slices.Equal(bases, []int{272, 400}) || changed(bases[:cap(bases)][2:]) {
		t.Errorf("the bases are %v", bases)
	}
	scribble(bases, 16)
	if n, ok := g.w.Where(Value{2, 8}, []int{1000, 2000}); n != 2008 || !ok {
		t.Error(n, ok)
	}
	if n, ok := g.w.Where(Value{2, 8}, nil); n != 0 || ok {
		t.Error(n, ok)
	}
}

// R2: several worlds have nothing of each other.
func TestR2SeveralWorlds(t *testing.T) {
	x := unit("A").data(2).export(api.Var, 0).ref(addresses, 1, 0, 0).ins(api.Load, 2, 1, 0).ins(api.More, 2, 2, 1).ins(api.Store, 2, 1, 0).ins(api.Store, 2, 14, -4).back()
	a, b := newRig(t, nil).adds(x), newRig(t, nil).adds(x)
	a.is(1, 0, enough, done(6)).is(1, 0, enough, done(6))
	b.is(1, 0, enough, done(6))
	a.has(1, numbers(2, 0)...)
	b.has(1, numbers(1, 0)...)
	b.check()
	if n := b.add(target("B")); n != 2 {
		t.Error(n)
	}
	a.is(2, 0, enough, trapped(api.TrapJump, 0)).has(2)
}

// R3: beside an error the number is 0; beside false, too; what is done, or without fuel, has no trap.
func TestR3ZeroValues(t *testing.T) {
	g := newRig(t).adds(target("A"))
	for _, x := range []*source{unit("B").spoil(), unit("B", "A"), unit("B", "A").ref(calls, 1, 1, 9), tower("B", 5)} {
		if n, err := g.w.Add(x.whole().o, nil); n != 0 || err == nil {
			t.Errorf("Add = %d, %v", n, err)
		}
	}
	if n, err := g.w.Add(unit("B", "A").ref(calls, 1, 1, 9).o, []int{1}); n != 0 || !sameError(err, api.ErrForm) {
		t.Errorf("Add = %d, %v", n, err)
	}
	if n, ok := g.w.Where(Value{3, 70}, []int{5}); n != 0 || ok {
		t.Errorf("Where = %d, %v", n, ok)
	}
	for _, fuel := range []int{0, 1, 2, 3, enough} {
		if o := g.w.Call(1, 0, fuel); o.Trap != 0 {
			t.Errorf("it comes to %+v", o)
		}
	}
}

// someInt is any number, mostly one that may be what is asked for.
func someInt(r *rand.Rand, most int) int {
	if r.Intn(4) > 0 {
		return r.Intn(most + 1)
	}
	return []int{math.MinInt, math.MinInt32, -2, -1, 255, 256, 1 << 31, 1 << 32, 1<<32 + 1, 1 << 62, math.MaxInt}[r.Intn(11)]
}

// someObject is a module with something in it that may be wrong.
func someObject(r *rand.Rand) api.Object {
	o := full().object()
	for range 1 + r.Intn(3) {
		switch r.Intn(14) {
		case 0:
			o.Name = []string{"", "A", "Ä", strings.Repeat("A", 1<<16), "\xff"}[r.Intn(5)]
		case 1:
			o.Key = r.Uint32()
		case 2:
			o.Imports[r.Intn(2)].Key = r.Uint32()
		case 3:
			o.Types[r.Intn(2)] = api.Type{Size: someInt(r, 64) * 4, Mod: someInt(r, 3), Base: someInt(r, 4)}
		case 4:
			o.Data = someInt(r, 64)
		case 5:
			o.Text = strings.Repeat("é", someInt(r, 40)&0xff)
		case 6:
			o.Code[r.Intn(len(o.Code))] = r.Uint32()
		case 7:
			o.Exports[r.Intn(5)] = api.Export{Kind: someInt(r, 2), At: someInt(r, 4)}
		case 8:
			o.Ptrs[r.Intn(2)] = someInt(r, 5)
		case 9:
			o.Procs[r.Intn(2)] = someInt(r, 5)
		case 10:
			o.Fix[r.Intn(3)] = someInt(r, len(o.Code))
		case 11:
			o.Body = someInt(r, len(o.Code))
		case 12:
			o.Code = o.Code[:r.Intn(len(o.Code)+1)]
		case 13:
			o.Code = append(o.Code, make([]uint32, r.Intn(300))...)
		}
		if len(o.Code) == 0 {
			break
		}
	}
	return o
}

// P1: each call ends, and none panics, at all arguments.
func TestP1AnyArguments(t *testing.T) {
	r := rand.New(rand.NewSource(221))
	added, told := 0, map[error]int{}
	for range 3000 {
		g := newRig(t).adds(target("A"), target("B"))
		for range 4 {
			var imports []int
			for range 2 + r.Intn(10)/9 {
				imports = append(imports, 1+len(imports))
				if r.Intn(10) == 0 {
					imports[len(imports)-1] = someInt(r, 3)
				}
			}
			before := g.w.state()
			n, err := g.w.Add(someObject(r), imports)
			told[err]++
			switch {
			case err == nil && n != len(before.Modules)+1:
				t.Fatalf("Add = %d behind %d", n, len(before.Modules))
			case err == nil:
				added++
			case n != 0 || err != error(api.ErrForm) && err != error(api.ErrArg):
				t.Fatalf("Add = %d, %v", n, err)
			case !alike(before, g.w.state()):
				t.Fatalf("behind %v all is %+v, was %+v", err, g.w.state(), before)
			}
			for range 6 {
				o := g.w.Call(someInt(r, 5), someInt(r, 20), someInt(r, 3000))
				if o.Steps < 0 || o.Steps > api.MaxFuel || o.End < api.Done || o.End > api.Fuel || (o.Trap != 0) != (o.End == api.Trapped) {
					t.Fatalf("it comes to %+v", o)
				}
				g.w.Data(someInt(r, 5))
				g.w.Where(Value{someInt(r, 5), someInt(r, 99)}, []int{someInt(r, 999), math.MaxInt, math.MinInt}[:r.Intn(4)])
			}
		}
	}
	if added < 1000 || told[api.ErrForm] < 1000 || told[api.ErrArg] < 300 {
		t.Errorf("%d were added; %v", added, told)
	}
}
