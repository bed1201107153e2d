package unload

import (
	"dowel/api"
	"dowel/zone"
	"slices"
	"testing"
)

func TestP21_1CellsOfANewSystem(t *testing.T) {
	for _, size := range []int{1024, 4096, 65536} {
		newRig(t, size, 16).has()
		// What is in files alone has no cells.
		newRig(t, size, 16, holder("H"), module("A").data(2).ptrs(0).procs(1)).has()
		newRig(t, size, 0, holder("H")).has()
	}
}

func TestP21_1CellsOfModulesWithoutAny(t *testing.T) {
	g := newRig(t, 1024, 16, target("A"), module("B", "A").data(64), filler("C", 40))
	g.loads("B", "C").fill(272, 1024, 0x41).has()
	g.frees("B").has()
}

// Both kinds, in any order of their words: Ptrs ahead of Procs, each in order, module by module.
func TestP21_1CellsInOrder(t *testing.T) {
	g := newRig(t, 1024, 16,
		module("A").data(7).ptrs(1, 5).procs(0, 2, 6),
		module("B").data(3).ptrs(0, 1, 2),
		module("C").data(4).procs(3),
		module("D").data(2),
		module("E").data(2).ptrs(1).procs(0),
		module("F").data(2).ptrs(0).procs(1))
	g.loads("A", "B", "C", "D", "E", "F").lies("A", "B", "C", "D", "E", "F")
	// Where they lie: 272, 304, 320, 340, 352, 364.
	g.has(
		Cell{276, 1, 0}, Cell{292, 1, 0}, Cell{272, 2, 0}, Cell{280, 2, 0}, Cell{296, 2, 0},
		Cell{304, 1, 0}, Cell{308, 1, 0}, Cell{312, 1, 0},
		Cell{332, 2, 0},
		Cell{356, 1, 0}, Cell{352, 2, 0},
		Cell{364, 1, 0}, Cell{368, 2, 0})
	for at := 272; at < 376; at += 4 {
		g.poke(at, 1000+at)
	}
	g.has(
		Cell{276, 1, 1276}, Cell{292, 1, 1292}, Cell{272, 2, 1272}, Cell{280, 2, 1280}, Cell{296, 2, 1296},
		Cell{304, 1, 1304}, Cell{308, 1, 1308}, Cell{312, 1, 1312},
		Cell{332, 2, 1332},
		Cell{356, 1, 1356}, Cell{352, 2, 1352},
		Cell{364, 1, 1364}, Cell{368, 2, 1368})
}

// As many as a module may have: 16 of each kind, the one kind's between the other one's.
func TestP21_1MostCells(t *testing.T) {
	x := module("A").data(64)
	var want []Cell
	for i := range 16 {
		x.ptrs(3 + 2*i)
		want = append(want, Cell{272 + 4*(3+2*i), 1, 0})
	}
	for i := range 16 {
		x.procs(32 + 2*i)
		want = append(want, Cell{272 + 4*(32+2*i), 2, 0})
	}
	newRig(t, 1024, 16, x).loads("A").has(want...)
}

// Zones rise by where they lie: what comes later into a hole that lies lower stands ahead.
func TestP21_1CellsRiseByPlaces(t *testing.T) {
	one := func(name string) *source { return module(name).data(2).ptrs(1).procs(0) }
	g := newRig(t, 1024, 16, filler("X", 12), one("A"), filler("Y", 24), one("B"), one("C"), one("D"), one("E"))
	g.loads("X", "A", "Y", "B").lies("X", "A", "Y", "B")
	g.has(Cell{288, 1, 0}, Cell{284, 2, 0}, Cell{324, 1, 0}, Cell{320, 2, 0})
	g.frees("Y").loads("C").has(Cell{288, 1, 0}, Cell{284, 2, 0}, Cell{300, 1, 0}, Cell{296, 2, 0}, Cell{324, 1, 0}, Cell{320, 2, 0})
	g.frees("X").loads("D").has(
		Cell{276, 1, 0}, Cell{272, 2, 0}, Cell{288, 1, 0}, Cell{284, 2, 0},
		Cell{300, 1, 0}, Cell{296, 2, 0}, Cell{324, 1, 0}, Cell{320, 2, 0})
	g.loads("E").lies("D", "A", "C", "E", "B")
	g.frees("A", "D", "B").has(Cell{300, 1, 0}, Cell{296, 2, 0}, Cell{312, 1, 0}, Cell{308, 2, 0})
	g.frees("C", "E").has()
}

// Values are words without a sign.
func TestP21_1Values(t *testing.T) {
	g := newRig(t, 1024, 16, holder("H")).loads("H")
	for _, v := range []int{0, 1, 2, 16, 255, 256, 271, 272, 276, 299, 65536, 1<<24 + 1<<16 + 2, 1<<31 - 1, 1 << 31, 1<<31 + 272, 1<<32 - 272, 1<<32 - 4, 1<<32 - 1} {
		for i, word := range []int{0, 3, 1, 4} {
			want := []Cell{{272, 1, 0}, {284, 1, 0}, {276, 2, 0}, {288, 2, 0}}
			want[i].Value = v
			g.poke(272+4*word, v).has(want...).poke(272+4*word, 0)
		}
	}
	g.poke(272, 1<<32-1).poke(276, 1<<31).poke(280, 5).poke(284, 0).poke(288, 300).poke(292, 5)
	g.has(Cell{272, 1, 1<<32 - 1}, Cell{284, 1, 0}, Cell{276, 2, 1 << 31}, Cell{288, 2, 300})
}

// What code has cells tell; the same place may be told twice.
func TestP21_1ValuesOfCode(t *testing.T) {
	g := newRig(t, 1024, 16, holder("H"), target("A")).loads("H", "A")
	h, a := 272, 272+holderSize
	g.tells("H", 0, "A", 0).has(Cell{h, 1, a}, Cell{h + 12, 1, 0}, Cell{h + 4, 2, 0}, Cell{h + 16, 2, 0})
	g.tells("H", 3, "A", 31).has(Cell{h, 1, a}, Cell{h + 12, 1, a + 31}, Cell{h + 4, 2, 0}, Cell{h + 16, 2, 0})
	g.tells("H", 4, "A", 40).has(Cell{h, 1, a}, Cell{h + 12, 1, a + 31}, Cell{h + 4, 2, 0}, Cell{h + 16, 2, a + 40})
	g.tells("H", 1, "H", 24).has(Cell{h, 1, a}, Cell{h + 12, 1, a + 31}, Cell{h + 4, 2, h + 24}, Cell{h + 16, 2, a + 40})
	g.tells("H", 0, "A", 31).tells("H", 1, "A", 40).has(Cell{h, 1, a + 31}, Cell{h + 12, 1, a + 31}, Cell{h + 4, 2, a + 40}, Cell{h + 16, 2, a + 40})
	// Other words aren't told, whatever they tell.
	g.tells("H", 2, "A", 0).tells("H", 5, "A", 4).has(Cell{h, 1, a + 31}, Cell{h + 12, 1, a + 31}, Cell{h + 4, 2, a + 40}, Cell{h + 16, 2, a + 40})
	g.calls("H", "Clear0", "Clear4").has(Cell{h, 1, 0}, Cell{h + 12, 1, a + 31}, Cell{h + 4, 2, a + 40}, Cell{h + 16, 2, 0})
}

// A body has told cells by the time its load ends; with an error its cells are gone.
func TestP21_1CellsOfBodies(t *testing.T) {
	own := func(name string) *source {
		x := module(name).data(2).ptrs(1).procs(0).export(api.Var, 0).export(api.Proc, 0)
		return x.body().tale(0, 1, 0, itsData, 4).tale(0, 0, 0, itsCode, 8)
	}
	g := newRig(t, 1024, 16, own("A").back(), own("B").trap(), own("C").back())
	g.loads("A").has(Cell{276, 1, 276}, Cell{272, 2, 288})
	if o, err := g.s.Load("B", enough); err != error(api.ErrTrap) || o.Steps != 8 {
		t.Fatalf("Load: %+v, %v", o, err)
	}
	g.has(Cell{276, 1, 276}, Cell{272, 2, 288})
	c := 272 + own("A").back().size()
	g.loads("C").has(Cell{276, 1, 276}, Cell{272, 2, 288}, Cell{c + 4, 1, c + 4}, Cell{c, 2, c + 16})
}

// Zones that were added from outside: in the order of their lists, and where the memory has no such word 0.
func TestP21_1CellsFromOutside(t *testing.T) {
	g := newRig(t, 1024, 16, holder("H")).loads("H")
	add := func(z zone.Zone) {
		t.Helper()
		if err := g.s.Zones().Add(z); err != nil {
			t.Fatalf("Add of %+v: %v", z, err)
		}
	}
	h := []Cell{{272, 1, 0}, {284, 1, 0}, {276, 2, 0}, {288, 2, 0}}
	add(zone.Zone{Base: 600, Data: 624, Read: 624, End: 640, Ptrs: []int{620, 600, 612}, Procs: []int{616, 604}})
	middle := []Cell{{620, 1, 5}, {600, 1, 0}, {612, 1, 0}, {616, 2, 0}, {604, 2, 1 << 31}}
	g.poke(620, 5).poke(604, 1<<31).has(slices.Concat(h, middle)...)
	// One that the memory ends within, and one behind all of it.
	add(zone.Zone{Base: 1016, Data: 1032, Read: 1032, End: 1032, Ptrs: []int{1028, 1020}, Procs: []int{1024}})
	add(zone.Zone{Base: 65528, Data: 65536, Read: 65536, End: 65536, Procs: []int{65532, 65528}})
	behind := []Cell{{1028, 1, 0}, {1020, 1, 7}, {1024, 2, 0}, {65532, 2, 0}, {65528, 2, 0}}
	g.poke(1020, 7).poke(1016, 9).has(slices.Concat(h, middle, behind)...)
	add(zone.Zone{Base: 500, Data: 500, Read: 500, End: 504})
	g.has(slices.Concat(h, middle, behind)...)
	g.s.Zones().Remove(600)
	g.has(slices.Concat(h, behind)...)
	g.frees("H").has(behind...)
}
