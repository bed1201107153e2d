package load

import (
	"dowel/api"
	"math/rand"
	"slices"
	"strings"
	"testing"
)

// holder has four words that point, four that tell code, and four others. Its body has the first of each kind tell places of its own.
func holder() *source {
	x := module("H").data(12).ptrs(0, 1, 2, 3).procs(4, 5, 6, 7).text("held").export(api.Var, 0).export(api.Proc, 0)
	x.ins(api.Go, 13, 0, 0)
	x.body().ref(addresses, 1, 0, 0).ref(addresses, 2, 15, 1).ref(addresses, 3, 0, 1)
	x.ins(api.Store, 2, 1, 0).ins(api.Store, 3, 1, 16).ins(api.Set, 4, 0, 77).ins(api.Store, 4, 1, 32).back()
	return x
}

// caller is a module whose body has H, its first import, tell where its own text and code lie: as the words of that number, of each kind.
func caller(name string, number int, imports ...string) *source {
	x := module(name, append([]string{"H"}, imports...)...).data(2).ptrs(0).procs(1).text("I am "+name).export(api.Proc, 0).export(api.Var, 0)
	x.ins(api.Go, 13, 0, 0)
	x.body().ref(addresses, 1, 1, 0).ref(addresses, 2, 15, 5).ref(addresses, 3, 0, 0).ref(addresses, 4, 0, 1)
	x.ins(api.Store, 2, 1, 4*number).ins(api.Store, 3, 1, 16+4*number).ins(api.Store, 2, 1, 32+4*number)
	return x.ins(api.Store, 2, 4, 0).ins(api.Store, 3, 4, 4).ins(api.Store, 1, 4, 0)
}

// A caller's block: 8 bytes of data, 8 of text, then its code. Where it lies, from where H does.
const (
	holderSize = 48 + 4 + 36
	callerSize = 8 + 8 + 48
)

var callers = []string{"C", "B", "A"}

// fixture has H loaded, and three callers to be loaded, of which one has faults; other modules lie around them.
func fixture(t *testing.T, at int, f faults) *rig {
	g := newRig(t, 1024, 6, holder(), module("Z"), module("Y", "H").data(1).ptrs(0).export(api.Var, 0))
	for i, s := range callers {
		x := caller(s, i+1, append([]string{"Z"}, callers[:i]...)...)
		if i == at {
			faulty(x, f)
		} else {
			x.back()
		}
		g.put(x)
	}
	return g.loads("H", "Y", "Z")
}

// faulty ends a caller with faults.
func faulty(x *source, f faults) {
	switch f.end {
	case api.Trapped:
		x.ins(0, 0, 0, 0)
	case api.Fuel:
		x.ins(api.Jump, 0, 0, -1)
	default:
		x.back()
	}
	if f.link {
		x.ref(calls, 1, 2, 0)
	}
	if f.big {
		for range 200 {
			x.back()
		}
	}
}

// Each error that linking, memory and bodies can tell, at the first, a middle and the last one of those that are to be loaded.
func TestP20_2UndoneWithAnError(t *testing.T) {
	for at := range callers {
		for _, f := range []faults{{link: true}, {big: true}, {end: api.Trapped}, {end: api.Fuel}} {
			g := fixture(t, at, f)
			before := g.state()
			h := g.base("H")
			g.poke(g.base("Y"), h+49)
			wantOutcome, wantErr := f.tells()
			if f.end == api.Trapped {
				wantOutcome.Steps = 10
			}
			g.ends("A", enough, wantErr, wantOutcome)
			checkHolder(t, g, h, at, f)
			g.words(g.base("Y"), h+49).checkCells()
			if after := g.state(); !alike(before, after) {
				t.Errorf("%d, %+v: all is %+v, was %+v", at, f, after, before)
			}
			checkLeft(t, g, h+holderSize+8+4, at, f)
			mendAndLoad(t, g, at)
		}
	}
}

// checkHolder asks for what H's cells tell behind an error: nothing of what is gone, all else as it was or as bodies left it.
func checkHolder(t *testing.T, g *rig, h, at int, f faults) {
	t.Helper()
	ran := at
	if f.end != api.Done {
		ran++
	}
	// The cells that tell H's own places stay.
	g.words(h, h+49, 0, 0, 0, h+52, 0, 0, 0, 77)
	for i := range callers {
		want := 0
		if i < ran {
			// A word that isn't declared tells what it did.
			want = h + holderSize + 8 + 4 + callerSize*i + 8 + 5
		}
		g.words(h+36+4*i, want)
	}
}

// checkLeft asks that the bytes of blocks which are free again are as they were left.
func checkLeft(t *testing.T, g *rig, from, at int, f faults) {
	t.Helper()
	for i, s := range callers {
		text, want := string(g.s.Mem().Bytes(from+callerSize*i+8, from+callerSize*i+14)), "I am "+s
		if i > at || i == at && f.end == api.Done {
			want = strings.Repeat("\x00", 6)
		}
		if text != want {
			t.Errorf("in the block of %q lies %q, want %q", s, text, want)
		}
		// The first data word pointed to H, which is no declared cell's any more, and stays.
		if word := g.word(from + callerSize*i); want[0] != 0 && word != from-8-4-holderSize {
			t.Errorf("in the block of %q the first word is %d", s, word)
		}
	}
}

// mendAndLoad has the faulty one be as the others: then all comes in, where the others were.
func mendAndLoad(t *testing.T, g *rig, at int) {
	t.Helper()
	g.put(caller(callers[at], at+1, append([]string{"Z"}, callers[:at]...)...).back())
	g.loads("A")
	h := g.base("H")
	for i, s := range callers {
		base := h + holderSize + 8 + 4 + callerSize*i
		if g.base(s) != base {
			t.Errorf("%q lies at %d, want %d", s, g.base(s), base)
		}
		g.words(h+4+4*i, base+8+5).words(h+20+4*i, base+16).words(base, h, base+16)
	}
	g.checkCells()
}

// A cell that told one place, and by a body another one that goes again, is 0, not what it was.
func TestP20_2WhatBodiesDidStays(t *testing.T) {
	x := module("A", "H").text("gone").body().ref(addresses, 1, 1, 0).ref(addresses, 2, 15, 0).ref(addresses, 3, 1, 1)
	x.ins(api.Store, 2, 1, 0).ins(api.Store, 1, 1, 4).ins(api.Store, 3, 1, 20).ins(api.Store, 2, 1, 32).ins(0, 0, 0, 0)
	g := newRig(t, 1024, 4, holder(), x).loads("H")
	h := g.base("H")
	g.ends("A", enough, api.ErrTrap, trapped(api.TrapCode, 7))
	g.words(h, 0, h, 0, 0, h+52, h+52, 0, 0, h+holderSize)
}

// A place of a module's end, or behind what went, or of another one's part, is told apart.
func TestP20_2EdgesOfWhatIsGone(t *testing.T) {
	// A's block has 16 bytes: a word of data, a text of 4, code of 8. Y's lies behind it, and H's ahead of it.
	x := module("A").data(1).text("gone").body().ins(0, 0, 0, 0).back()
	for off := -8; off <= 24; off += 4 {
		for _, word := range []int{1, 5} {
			g := newRig(t, 1024, 4, holder(), module("Y").data(1), x, module("Gap").data(3)).loads("H")
			h := g.base("H")
			a := h + holderSize
			g.loads("Gap", "Y").removes("Gap")
			value := a + off
			g.poke(h+4*word, value)
			kept := 0
			switch {
			case word == 1 && off >= 16 && off < 20, word == 5 && off >= 20 && off < 24, word == 5 && off < 0:
				kept = value
			}
			g.ends("A", enough, api.ErrTrap, trapped(api.TrapCode, 0))
			g.words(h+4*word, kept).checkCells()
		}
	}
}

// A cell may not have its value any more, but one that is no declared one may have any.
func TestP20_2CellsAreClearedWithAnyError(t *testing.T) {
	for _, c := range []struct {
		err  error
		name string
		more []*source
	}{
		{api.ErrName, "", nil},
		{api.ErrNone, "None", nil},
		{api.ErrForm, "A", []*source{noObject("A")}},
		{api.ErrKey, "A", []*source{module("A", "B"), module("B").key(1)}},
		{api.ErrCycle, "A", []*source{module("A", "B"), module("B", "A")}},
		{api.ErrDepth, "A", line("A", "B", "C", "D", "E", "F", "G", "I", "J", "K")},
		{api.ErrTable, "A", line("A", "B", "C", "D")},
		{api.ErrForm, "A", []*source{tower("A", "", 4)}},
		{api.ErrMemory, "A", []*source{filler("A", 760)}},
	} {
		// X's block has its text, and one instruction behind that.
		g := newRig(t, 1024, 4, holder(), module("X").text("gone")).loads("H", "X")
		g.put(c.more...)
		h, x := g.base("H"), g.base("X")
		g.poke(h+4, x+3)
		g.poke(h+20, x+4)
		g.poke(h+36, x)
		g.removes("X").words(h, h+49, x+3, 0, 0, h+52, x+4, 0, 0, 77, x)
		g.fails(c.name, c.err)
		g.words(h, h+49, 0, 0, 0, h+52, 0, 0, 0, 77, x).checkCells()
	}
}

// P20.4: with an error the holes are as they were, wherever blocks were taken.
func TestP20_4AnyHoles(t *testing.T) {
	r := rand.New(rand.NewSource(204))
	kinds := []faults{{link: true}, {big: true}, {end: api.Trapped}, {end: api.Fuel}}
	for range 400 {
		g := newRig(t, 2048, 16, module("Z")).loads("Z")
		var taken [][2]int
		for range 30 {
			size := 4 * (1 + r.Intn(14))
			taken = append(taken, [2]int{g.occupy(size), size})
		}
		for _, i := range r.Perm(30)[:r.Intn(20)] {
			g.vacate(taken[i][0], taken[i][1])
		}
		names, bad := []string{"A", "B", "C", "D", "E"}, r.Intn(5)
		f := kinds[r.Intn(4)]
		for i, s := range names {
			x := module(s, append([]string{"Z"}, names[i+1:min(i+2, 5)]...)...).data(r.Intn(6))
			if i == bad {
				f.on(x)
			}
			if i == bad && f.big {
				x.data(64)
				for x.here() < 256 {
					x.back()
				}
			}
			g.put(x)
		}
		outcome, err := f.tells()
		g.ends("A", enough, err, outcome)
	}
}

// T3, with all bytes that a file may have, by turning any of a module's.
func TestT3AnyBytes(t *testing.T) {
	r := rand.New(rand.NewSource(203))
	told := map[error]int{}
	base := giver().ptrs(0).procs(1).cmd("Run")
	base.body().ins(api.Set, 1, 0, 5).ref(addresses, 2, 0, 1).ins(api.Store, 1, 2, 0).back()
	top := taker()
	top.o.Body, top.o.Ptrs = 12, []int{0}
	for range 4000 {
		g := newRig(t, 1024, 4, base, top)
		for range 1 + r.Intn(2) {
			name := []string{"A", "B"}[r.Intn(2)]
			b := slices.Clone(g.p.files[name].file(t))
			for range 1 + r.Intn(3) {
				at := r.Intn(len(b))
				b[at] = []byte{b[at] ^ 1<<r.Intn(8), b[at] + 1, b[at] - 1, byte(r.Intn(256))}[r.Intn(4)]
			}
			g.putAs(name, sourceOf(b))
		}
		before := g.state()
		o, err := g.load("A", 30)
		if err == nil {
			before = state{}
		}
		after := g.state()
		if err != nil && !alike(before, after) {
			t.Fatalf("behind %v all is %+v, was %+v", err, after, before)
		}
		if (err == error(api.ErrTrap)) != (o.End == api.Trapped) || (err == error(api.ErrFuel)) != (o.End == api.Fuel) {
			t.Fatalf("%+v beside %v", o, err)
		}
		g.checkCells()
		told[err]++
	}
	for _, err := range []error{nil, api.ErrForm, api.ErrKey, api.ErrTrap} {
		if told[err] < 20 {
			t.Errorf("%v was told %d times: %v", err, told[err], told)
		}
	}
}
