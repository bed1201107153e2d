package unload

import (
	"dowel/api"
	"dowel/load"
	"dowel/table"
	"dowel/zone"
	"math"
	"math/rand"
	"slices"
	"strings"
	"testing"
)

// P1: where there is no system, as beside an error of load.New, nothing is.
func TestP1NoSystem(t *testing.T) {
	s, err := load.New(load.Config{Size: 1000})
	if s != nil || err == nil {
		t.Fatalf("New = %v, %v", s, err)
	}
	if l := Cells(s); len(l) != 0 {
		t.Errorf("Cells are %v", l)
	}
	for _, name := range append(slices.Clone(noNames), "A", "H", "Abcdefghijklmnop") {
		want := error(api.ErrNone)
		if slices.Contains(noNames, name) {
			want = api.ErrName
		}
		if held, err := Held(s, name), Free(s, name); held || err != want {
			t.Errorf("Held(%q) = %v, and Free %v, want %v", name, held, err, want)
		}
	}
}

// P1: whatever was done to what is the system's own, each call ends, none panics, and an error is one of the chapter's.
func TestP1WhatOthersDid(t *testing.T) {
	strange := func(base, size int) table.Module {
		return table.Module{Name: "S", Base: base, Size: size, Zone: zone.Zone{Base: base, Data: size, Read: -1, End: math.MaxInt, Ptrs: []int{math.MinInt, 3, math.MaxInt}}}
	}
	for i, turn := range []func(s *load.System){
		func(s *load.System) {},
		func(s *load.System) { s.Heap().Give(272, 64) },
		func(s *load.System) { s.Heap().Take(400) },
		func(s *load.System) { s.Zones().Remove(272) },
		func(s *load.System) { s.Zones().Remove(272 + holderSize) },
		func(s *load.System) { s.Table().Remove("A") },
		func(s *load.System) { s.Remove("A") },
		func(s *load.System) {
			s.Zones().Remove(272 + holderSize)
			s.Zones().Add(zone.Zone{Base: 272 + holderSize, Data: 65536, Read: 65536, End: 65536, Ptrs: []int{65532, 1020, 1024, 272 + holderSize}})
		},
		func(s *load.System) { s.Table().Add(table.Module{}) },
		func(s *load.System) { s.Table().Add(table.Module{Name: "S"}) },
		func(s *load.System) { s.Table().Add(strange(math.MinInt, math.MaxInt)) },
		func(s *load.System) { s.Table().Add(strange(math.MaxInt, math.MinInt)) },
		func(s *load.System) { s.Table().Add(strange(272, -5)) },
		func(s *load.System) { s.Table().Add(strange(3, 1<<40)) },
		func(s *load.System) { s.Table().Add(strange(0, 0)) },
		func(s *load.System) { s.Files().Delete("A"); s.Files().Put("H", nil) },
	} {
		for fill := range 3 {
			g := newRig(t, 1024, 8, holder("H"), target("A")).loads("H", "A").tells("H", 0, "A", 0)
			g.fill(272, 272+24, []byte{0, 1, 0xff}[fill])
			turn(g.s)
			for range 3 {
				for _, name := range []string{"A", "S", "", "H", "None", "1"} {
					Held(g.s, name)
					err := Free(g.s, name)
					if err != nil && err != error(api.ErrName) && err != error(api.ErrNone) && err != error(api.ErrBusy) {
						t.Errorf("%d: Free(%q) = %v", i, name, err)
					}
					if _, there := g.s.Table().Find(name); there && err == nil {
						t.Errorf("%d: Free(%q) = nil, and it is there", i, name)
					}
					Cells(g.s)
				}
			}
		}
	}
}

// P1: any names, at any system; the same is told of the same.
func TestP1AnyNames(t *testing.T) {
	r := rand.New(rand.NewSource(211))
	known := []string{"H", "A", "B", "", "1", "\x00", "\xff\xfe", "é", strings.Repeat("A", 17), strings.Repeat("A", 1<<20)}
	for range 300 {
		g := newRig(t, 1024, r.Intn(20)-2, holder("H"), target("A"), target("B", "A"))
		for range 20 {
			name := known[r.Intn(len(known))]
			if r.Intn(3) == 0 {
				b := make([]byte, r.Intn(20))
				r.Read(b)
				name = string(b)
			}
			if r.Intn(3) == 0 {
				g.s.Load(name, enough)
			}
			held, _ := g.held(name), g.cells()
			if err := g.free(name); held && err != error(api.ErrBusy) && err != error(api.ErrName) {
				t.Fatalf("%q is held, and Free tells %v", name, err)
			}
		}
	}
}

// R2: what Cells tells is new memory, with all its room behind the end; changing it changes nothing that is told later, nor the system.
func TestR2CellsAreNew(t *testing.T) {
	g := newRig(t, 1024, 16, holder("H"), holder("I"), target("A")).loads("H", "I", "A").tells("H", 0, "A", 3).tells("I", 4, "H", 24)
	before := g.state()
	want := slices.Clone(Cells(g.s))
	if len(want) != 8 {
		t.Fatalf("Cells are %v", want)
	}
	for range 3 {
		l, other := Cells(g.s), Cells(g.s)
		l = l[:cap(l)]
		for i := range l {
			l[i] = Cell{-1, -1, -1}
		}
		if !slices.Equal(other, want) {
			t.Fatalf("two lists share their memory: %v", other)
		}
		g.has(want...).holds(true, "A", "H").holds(false, "I").fails(api.ErrBusy, "A", "H")
		if after := g.state(); !alike(before, after) {
			t.Fatalf("all is %+v, was %+v", after, before)
		}
	}
	// What was told stays as it was, whatever comes.
	told := Cells(g.s)
	g.frees("I").calls("H", "Clear0").frees("A", "H")
	if !slices.Equal(told, want) {
		t.Errorf("what was told is %v now, was %v", told, want)
	}
}

// R2: nothing is kept from one call to the next: two systems, asked by turns, know nothing of each other.
func TestR2TwoSystems(t *testing.T) {
	one := newRig(t, 1024, 16, holder("H"), target("A")).loads("H", "A")
	two := newRig(t, 2048, 16, target("A"), holder("H")).loads("A", "H")
	one.tells("H", 0, "A", 0)
	one.holds(true, "A")
	two.holds(false, "A").has(Cell{316, 1, 0}, Cell{328, 1, 0}, Cell{320, 2, 0}, Cell{332, 2, 0})
	one.has(Cell{272, 1, 272 + holderSize}, Cell{284, 1, 0}, Cell{276, 2, 0}, Cell{288, 2, 0}).fails(api.ErrBusy, "A")
	two.frees("A").fails(api.ErrNone, "A")
	one.fails(api.ErrBusy, "A").holds(true, "A").frees("H", "A")
	two.frees("H")
}

// R3: behind an error all is as it was, and the next call tells the same as it would have told.
func TestR3BehindErrors(t *testing.T) {
	g := newRig(t, 1024, 16, holder("H"), target("A"), module("B", "A")).loads("H", "B").tells("H", 3, "A", 8)
	cells := g.cells()
	for range 3 {
		g.fails(api.ErrName, "", "1").fails(api.ErrNone, "None", "a").fails(api.ErrBusy, "A")
		g.has(cells...).holds(true, "A").holds(false, "B", "H", "None", "1")
	}
	g.frees("B").fails(api.ErrBusy, "A").calls("H", "Clear3").frees("A").fails(api.ErrNone, "A", "B").frees("H").fails(api.ErrNone, "H")
}
