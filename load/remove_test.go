package load

import (
	"dowel/api"
	"dowel/heap"
	"dowel/zone"
	"slices"
	"strings"
	"testing"
)

func TestP20_3RemoveWhatIsNotThere(t *testing.T) {
	g := newRig(t, 1024, 4, module("A"), module("B", "A"))
	wrong := []string{"", "a", "AA", "1", "\xff", "C", strings.Repeat("A", 100000)}
	for _, s := range append(wrong, "A", "B") {
		if g.remove(s) {
			t.Errorf("Remove(%q) = true", s)
		}
	}
	g.loads("A")
	for _, s := range append(wrong, "B") {
		if g.remove(s) {
			t.Errorf("Remove(%q) = true", s)
		}
	}
	g.removes("A")
	if g.remove("A") {
		t.Error("it is gone twice")
	}
}

func TestP20_3RemoveWhatIsImported(t *testing.T) {
	g := newRig(t, 1024, 8, module("A", "B", "C"), module("B", "C"), module("C"), module("D", "C"))
	g.loads("A", "D")
	for _, s := range []string{"B", "C"} {
		if g.remove(s) {
			t.Errorf("%q is imported, and goes", s)
		}
	}
	g.removes("A")
	if g.remove("C") {
		t.Error("C is imported twice, and goes")
	}
	g.removes("B")
	if g.remove("C") {
		t.Error("C is imported once, and goes")
	}
	g.removes("D", "C")
}

func TestP20_3WhatIsRemovedIsGone(t *testing.T) {
	g := newRig(t, 1024, 8, clerk(), holder(), module("C"))
	g.loads("C", "A", "H")
	if !g.remove("A") {
		t.Fatal("it isn't gone")
	}
	size := clerk().size()
	if holes := g.s.Heap().Holes(); holes[0] != (heap.Hole{At: 276, Size: size}) {
		t.Errorf("the holes are %v", holes)
	}
	if z := g.s.Zones().All(); len(z) != 2 || z[0].Base != 272 || z[1].Base != 276+size {
		t.Errorf("the zones are %v", z)
	}
	if names := g.s.Table().Names(); !slices.Equal(names, []string{"C", "H"}) {
		t.Errorf("the modules are %q", names)
	}
	g.none("A", "Count")
	// Its declared cell is none any more: another zone may be there.
	if g.s.Zones().Cell(280) != 0 || g.s.Zones().CanStore(276, 1) || g.s.Zones().CanRun(276+16) {
		t.Error("its zone isn't gone")
	}
	if err := g.s.Zones().Add(zone.Zone{Base: 276, Data: 280, Read: 280, End: 276 + size}); err != nil {
		t.Errorf("Add: %v", err)
	}
}

// Each of several, in any order that imports leave: then all is as at first.
func TestP20_3RemoveEach(t *testing.T) {
	for _, order := range [][]string{{"A", "B", "C"}, {"A", "C", "B"}, {"B", "A", "C"}, {"B", "C", "A"}, {"C", "A", "B"}, {"C", "B", "A"}} {
		g := newRig(t, 1024, 3, filler("A", 40), filler("B", 20), filler("C", 100))
		g.loads("A", "B", "C")
		for i, s := range order {
			g.removes(s)
			if len(g.s.Table().Names()) != 2-i || g.s.Table().Room() != i+1 {
				t.Errorf("there are %q", g.s.Table().Names())
			}
		}
		if !slices.Equal(g.s.Heap().Holes(), []heap.Hole{{At: 272, Size: 752}}) || len(g.s.Zones().All()) != 0 {
			t.Errorf("the holes are %v", g.s.Heap().Holes())
		}
	}
}

// What lies there stays till a block is laid there; cells elsewhere stay as they are, and then it can be loaded again.
func TestP20_3CellsStay(t *testing.T) {
	x := clerk()
	g := newRig(t, 1024, 8, holder(), x, module("B").data(1)).loads("H", "A")
	h, a := g.base("H"), g.base("A")
	code := a + 8 + 4
	g.poke(h+4, a)
	g.poke(h+8, a+9)
	g.poke(h+20, code)
	g.checkCells()
	before := g.s.Mem().Bytes(0, 1024)
	g.removes("A")
	if !slices.Equal(g.s.Mem().Bytes(0, 1024), before) {
		t.Error("a byte is changed")
	}
	g.words(h, h+49, a, a+9, 0, h+52, code, 0, 0)
	// A load without an error leaves them, too, where another block is laid there.
	g.loads("B").words(h, h+49, a, a+9, 0, h+52, code, 0, 0)
	g.removes("B").loads("A").words(h, h+49, a, a+9, 0, h+52, code, 0, 0).words(a, 0, 0)
	g.checkCells()
	g.calls("A", "Count", enough, api.Outcome{Steps: 5})
}

func TestP20_3LoadedAgain(t *testing.T) {
	g := newRig(t, 1024, 2, counter("A"), module("B", "A"))
	for range 5 {
		g.loads("B").words(272, 1)
		g.fill(272, 276, 0x99)
		g.removes("B", "A")
	}
	// Another module of that name.
	g.put(counter("A").key(9).data(3))
	g.fails("B", api.ErrKey).loads("A").fails("B", api.ErrKey)
	b := module("B")
	b.o.Imports = []api.Import{{Name: "A", Key: 9}}
	g.put(b)
	g.loads("B")
}

// T6: loaded, and freed from the last one on, the modules, and the holes, are as they were.
func TestT6LoadedAndFreed(t *testing.T) {
	g := newRig(t, 2048, 16, book(), scribe("A", 1, "B", "C", "D"), scribe("B", 2, "D", "E"), scribe("C", 3, "B"), scribe("D", 4), scribe("E", 5, "D"))
	g.occupy(36)
	at := g.occupy(200)
	g.occupy(20)
	g.vacate(at+4, 180)
	before := g.state()
	for range 3 {
		g.loads("A")
		names := g.s.Table().Names()
		slices.Reverse(names)
		g.removes(names...)
		if after := g.state(); !alike(before, after) {
			t.Fatalf("all is %+v, was %+v", after, before)
		}
	}
}
