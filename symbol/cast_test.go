package symbol

import (
	"dowel/api"
	"testing"
)

// By number, what targets export.
const (
	itsData = 0 // its first word: where its block begins
	itsCode = 1 // its first instruction
	itsType = 2 // its first type
	itsLast = 3 // its second one, which extends the first one
	itsWord = 4 // its third word, which isn't declared
)

// Where the parts of a target's block are: 24 bytes of data, 32 of types, 8 of its text, 16 of code.
const (
	targetTypes = 24
	targetText  = 56
	targetCode  = 64
	targetSize  = 80
)

// target is a module that others refer to: its first word points, its second one tells code, the other four aren't declared.
func target(name string) *source {
	x := unit(name).data(6).ptrs(0).procs(1).rec(8, 0, -1).rec(12, 0, 0).text("abcde")
	x.export(api.Var, 0).export(api.Proc, 0).export(api.Rec, 0).export(api.Rec, 1).export(api.Var, 2)
	return x.ins(api.More, 1, 1, 1).ins(api.More, 1, 1, 1).back().none()
}

// prober is module 3, which imports the targets 1 and 2, and is like them, but for code that is to be put.
func prober() *source {
	x := unit("P", "A", "B").data(6).ptrs(0).procs(1).rec(8, 0, -1).rec(12, 0, 0).text("abcde")
	return x.export(api.Var, 0).export(api.Proc, 0).export(api.Rec, 0).export(api.Rec, 1).export(api.Var, 2)
}

// probe adds the targets and a prober.
func probe(t testing.TB, x *source) *rig {
	t.Helper()
	return newRig(t, twoWays()...).adds(target("A"), target("B"), x)
}

// result is the word in which a prober keeps what comes of it.
const result = 5

// reckons has a prober do an op with two values; its third register's number is kept.
func reckons(t testing.TB, op int, x, y Value) (Value, api.Outcome, int) {
	t.Helper()
	p := prober().value(1, x).value(2, y)
	if x == y {
		p = prober().value(1, x).ins(api.More, 2, 1, 0)
	}
	at := p.here()
	p.ins(op, 3, 1, 2).keep(3, result).back()
	g := probe(t, p)
	o := g.call(3, 0, enough)
	return g.w.Data(3)[result], o, at
}

// comes asks what an op comes to: a value, or a trap.
func comes(t *testing.T, op int, x, y, want Value, trap int) {
	t.Helper()
	v, o, at := reckons(t, op, x, y)
	wantOutcome := done(at + 4)
	if trap != 0 {
		wantOutcome, want = trapped(trap, at), Value{}
	}
	if v != want || o != wantOutcome {
		t.Errorf("op %d of %v, %v is %v, %+v, want %v, %+v", op, x, y, v, o, want, wantOutcome)
	}
}

// jumps asks whether an op of two values is met: 1, 0, or a trap.
func jumps(t *testing.T, op int, x, y Value, met, trap int) {
	t.Helper()
	p := prober().value(1, x).value(2, y).ins(api.Set, 3, 0, 1)
	at := p.here()
	p.ins(op, 1, 2, 1).ins(api.Set, 3, 0, 0).keep(3, result).back()
	g := probe(t, p)
	want, wantOutcome := Value{N: met}, done(at+5-met)
	if trap != 0 {
		want, wantOutcome = Value{}, trapped(trap, at)
	}
	if o := g.call(3, 0, enough); g.w.Data(3)[result] != want || o != wantOutcome {
		t.Errorf("op %d of %v, %v is %v, %+v, want %v, %+v", op, x, y, g.w.Data(3)[result], o, want, wantOutcome)
	}
}

// loads asks what a load at a value, and so much more, comes to.
func loads(t *testing.T, op int, at Value, more int, want Value, trap int) {
	t.Helper()
	p := prober().value(1, at)
	steps := p.here()
	p.ins(op, 3, 1, more).keep(3, result).back()
	g := probe(t, p)
	wantOutcome := done(steps + 4)
	if trap != 0 {
		want, wantOutcome = Value{}, trapped(trap, steps)
	}
	if o := g.call(3, 0, enough); g.w.Data(3)[result] != want || o != wantOutcome {
		t.Errorf("op %d at %v and %d is %v, %+v, want %v, %+v", op, at, more, g.w.Data(3)[result], o, want, wantOutcome)
	}
}

// stores has a prober store a value at another one, and so much more, and asks for the trap; without one a load there is to tell what was stored.
func stores(t *testing.T, op int, v, at Value, more int, trap int) *rig {
	t.Helper()
	p := prober().value(2, v).value(1, at)
	steps := p.here()
	p.ins(op, 2, 1, more)
	back := api.Load
	if op == api.StorB {
		back = api.LoadB
		v.N &= 0xff
	}
	p.ins(back, 4, 1, more).keep(4, result).back()
	g := probe(t, p)
	want := done(steps + 5)
	if trap != 0 {
		want, v = trapped(trap, steps), Value{}
	}
	if o := g.call(3, 0, enough); g.w.Data(3)[result] != v || o != want {
		t.Errorf("op %d of %v at %v and %d is %v, %+v, want %v, %+v", op, v, at, more, g.w.Data(3)[result], o, v, want)
	}
	return g
}
