package unload

import (
	"dowel/api"
	"math/rand"
	"slices"
	"strconv"
	"testing"
)

// Behind each Free that comes to no error no declared cell tells a place of what is gone, whatever cells told ahead of it.
func TestP21_3NoCellTellsWhatIsGone(t *testing.T) {
	r := rand.New(rand.NewSource(213))
	names := []string{"H", "I", "A", "B"}
	freed, busy := 0, 0
	for range 3000 {
		g := newRig(t, 1024, 16, holder("H"), holder("I"), target("A"), target("B"))
		r.Shuffle(len(names), func(a, b int) { names[a], names[b] = names[b], names[a] })
		g.loads(names...)
		for range r.Intn(4) {
			owner, told := []string{"H", "I"}[r.Intn(2)], names[r.Intn(4)]
			if r.Intn(2) == 0 {
				told = owner
			}
			m, _ := g.s.Table().Find(told)
			g.poke(g.base(owner)+4*r.Intn(6), m.Base+r.Intn(m.Size+1))
		}
		for _, s := range names {
			m, _ := g.s.Table().Find(s)
			if g.free(s) != nil {
				busy++
				continue
			}
			freed++
			for _, c := range g.cells() {
				if c.Value >= m.Base && c.Value < m.Base+m.Size {
					t.Fatalf("the cell at %d tells %d, and what lay from %d to %d is gone", c.At, c.Value, m.Base, m.Base+m.Size)
				}
			}
		}
	}
	if freed < 3000 || busy < 500 {
		t.Errorf("only %d were freed, and %d were busy", freed, busy)
	}
}

// family are modules that import one another, of several sizes, some with cells and bodies; none is held.
func family() []*source {
	own := module("Own", "B").data(2).ptrs(1).procs(0).export(api.Var, 0).export(api.Proc, 0)
	own.body().tale(0, 1, 0, itsData, 4).tale(0, 0, 0, itsCode, 4).back()
	return []*source{
		book(), counter("B"), own, target("A", "B", "C"), target("C", "D", "Book"), filler("D", 28), holder("H"), module("E", "A", "Own", "H"),
	}
}

// Any names loaded, and freed in reverse order, with nothing held: the table, the zones, the holes are as they were, whatever lies around.
func TestP21_3FreedInReverseOrder(t *testing.T) {
	r := rand.New(rand.NewSource(2131))
	for range 400 {
		g := newRig(t, 2048, 16, family()...)
		all := []string{"Book", "B", "Own", "A", "C", "D", "H", "E"}
		var blocks []int
		for range r.Intn(20) {
			size := 4 * (1 + r.Intn(16))
			at, err := g.s.Heap().Take(size)
			if err != nil {
				t.Fatal(err)
			}
			if blocks = append(blocks, at, size); r.Intn(2) == 0 {
				blocks = blocks[2:]
				g.s.Heap().Give(at, size)
			}
		}
		for range r.Intn(3) {
			g.loads(all[r.Intn(8)])
		}
		before := g.state()
		for range r.Intn(6) {
			g.loads(all[r.Intn(8)])
		}
		names := g.s.Table().Names()[len(before.Names):]
		slices.Reverse(names)
		g.holds(false, names...).frees(names...).checkCells()
		after := g.state()
		// What bodies wrote into the book stays, and what lies where blocks were.
		after.Bytes = before.Bytes
		if !alike(before, after) {
			t.Fatalf("behind %q all is %+v, was %+v", names, after, before)
		}
	}
}

// The same with something held: what holds, and what it doesn't import, goes; what is held stays, and with it all that it imports.
func TestP21_3FreedInReverseOrderWithSomethingHeld(t *testing.T) {
	for _, c := range []struct {
		held       string
		stay, gone []string
	}{
		{"E", []string{"E", "A", "C", "D", "Own", "B", "Book"}, nil},
		{"A", []string{"A", "C", "D", "B", "Book"}, []string{"E", "Own"}},
		{"C", []string{"C", "D", "Book"}, []string{"E", "Own", "A", "B"}},
		{"D", []string{"D"}, []string{"E", "Own", "A", "C", "B", "Book"}},
		{"Book", []string{"Book"}, []string{"E", "Own", "A", "C", "B", "D"}},
		{"", nil, []string{"E", "Own", "A", "C", "B", "D", "Book"}},
	} {
		g := newRig(t, 2048, 16, family()...).loads("H")
		// H isn't to go, as E imports it: it was there before.
		before := g.state()
		g.loads("E")
		if c.held != "" {
			g.poke(g.base("H")+12, g.base(c.held))
		}
		names := g.s.Table().Names()[1:]
		for _, s := range slices.Backward(names) {
			if slices.Contains(c.stay, s) {
				g.fails(api.ErrBusy, s)
			} else {
				g.frees(s)
			}
		}
		left := g.s.Table().Names()[1:]
		if len(left) != len(c.stay) || len(left)+len(c.gone) != len(names) {
			t.Errorf("%q is held, and %q are left", c.held, left)
		}
		for _, s := range c.gone {
			g.fails(api.ErrNone, s)
		}
		// Once it is held no more, they go in reverse order.
		g.calls("H", "Clear3").frees(reversed(left)...)
		if after := g.state(); !alike(before.Holes, after.Holes) || !alike(before.Names, after.Names) || !alike(before.Zones, after.Zones) {
			t.Errorf("all is %+v, was %+v", after, before)
		}
		g.frees("H")
	}
}

func reversed(l []string) []string {
	l = slices.Clone(l)
	slices.Reverse(l)
	return l
}

// A module that has another one tell of it, and is undone by its load's error, holds none and is told by none.
func TestP21_3BehindALoadWithAnError(t *testing.T) {
	x := module("X", "H", "A").text("gone").data(1).ptrs(0).export(api.Var, 0).export(api.Proc, 0)
	x.body().tale(1, 0, 0, itsData, 4).tale(1, 1, 0, itsCode, 0).tale(1, 3, 2, itsData, 31).tale(0, 0, 1, itsData, 0).trap()
	g := newRig(t, 1024, 16, holder("H"), target("A"), x).loads("H")
	if o, err := g.s.Load("X", enough); err != error(api.ErrTrap) || o.Steps != 16 {
		t.Fatalf("Load: %+v, %v", o, err)
	}
	// A came by that load, too.
	g.has(Cell{272, 1, 0}, Cell{284, 1, 0}, Cell{276, 2, 0}, Cell{288, 2, 0}).fails(api.ErrNone, "X", "A").holds(false, "H")
	g.loads("A")
	if _, err := g.s.Load("X", enough); err != error(api.ErrTrap) {
		t.Fatalf("Load: %v", err)
	}
	a := g.base("A")
	g.has(Cell{272, 1, 0}, Cell{284, 1, a + 31}, Cell{276, 2, 0}, Cell{288, 2, 0}).holds(true, "A").holds(false, "H").fails(api.ErrBusy, "A")
	g.frees("H", "A").has()
}

// T6: as many modules as there may be, in rounds, each of which imports the one ahead of it or none, freed from the last one on.
func TestT6AsManyAsThereMayBe(t *testing.T) {
	for step := range 4 {
		g := newRig(t, 2048, 16)
		before := g.state()
		for range 3 {
			var names []string
			for i := range 16 {
				s := "M" + strconv.Itoa(i)
				x := module(s).data(2).ptrs(0).procs(1)
				if step > 0 && i%step > 0 {
					x = module(s, names[i-1]).text(s)
				}
				g.put(x)
				names = append(names, s)
			}
			g.loads(names...).checkCells().frees(reversed(names)...)
			if after := g.state(); !alike(before.Holes, after.Holes) || !alike(before.Names, after.Names) || !alike(before.Zones, after.Zones) {
				t.Fatalf("all is %+v, was %+v", after, before)
			}
		}
	}
}
