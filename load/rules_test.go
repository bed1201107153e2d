package load

import (
	"bytes"
	"dowel/api"
	"dowel/table"
	"dowel/zone"
	"math"
	"math/rand"
	"slices"
	"strings"
	"testing"
)

// R2: no file's bytes are changed, by a load that comes to something or not, by a call, by a removal.
func TestR2FilesStay(t *testing.T) {
	g := newRig(t, 1024, 3, taker().cmd("Run").back(), giver(), module("C", "None"), noObject("D", 1, 2, 3), noObject("E"), tower("F", "", 4), caller("X", 1).ins(0, 0, 0, 0), holder())
	before := map[string][]byte{}
	names := g.s.Files().Names()
	for _, s := range names {
		before[s], _ = g.s.Files().Get(s)
	}
	for range 3 {
		for _, s := range names {
			g.load(s, enough)
			g.call("A", "Run", enough)
		}
		for _, s := range slices.Backward(g.s.Table().Names()) {
			g.removes(s)
		}
		if after := g.s.Files().Names(); !slices.Equal(after, names) {
			t.Fatalf("the files are %q", after)
		}
		for _, s := range names {
			if b, err := g.s.Files().Get(s); err != nil || !bytes.Equal(b, before[s]) {
				t.Fatalf("the file %q is %v, %v, was %v", s, b, err, before[s])
			}
		}
	}
}

// R2: what was handed in, and what was told, may be changed without a difference to the system.
func TestR2WhatIsToldIsNew(t *testing.T) {
	g := newRig(t, 1024, 4, holder(), giver().ptrs(0, 1).cmd("Run").back())
	bytesOfA := taker().cmd("Run").back().file(t)
	if err := g.s.Files().Put("A", bytesOfA); err != nil {
		t.Fatal(err)
	}
	g.p.files["A"] = taker().cmd("Run").back()
	scribble := func() {
		for i := range bytesOfA {
			bytesOfA[i] = 0xff
		}
		for _, s := range g.s.Files().Names() {
			b, _ := g.s.Files().Get(s)
			for i := range b {
				b[i] = 0xff
			}
		}
		names := g.s.Table().Names()
		for i, s := range names {
			m, _ := g.s.Table().Find(s)
			names[i] = "None"
			spoilModule(m)
		}
		for _, z := range g.s.Zones().All() {
			spoilList(z.Ptrs, 0)
			spoilList(z.Procs, 0)
		}
		spoilList(g.s.Mem().Bytes(0, 1024), 0xff)
		holes := g.s.Heap().Holes()
		for i := range holes {
			holes[i].At, holes[i].Size = 0, 4
		}
	}
	scribble()
	g.loads("H", "A")
	scribble()
	g.check()
	g.calls("A", "Run", enough, api.Outcome{Steps: 1})
	scribble()
	g.removes("A")
	g.loads("A").fails("None", api.ErrNone)
	scribble()
	g.check()
	// What lies in the table is there when another one is linked.
	g.put(module("C", "B").rec(4, 1, 2).ref(calls, 1, 1, 0).ref(addresses, 1, 1, 1).ref(types, 1, 1, 5))
	g.loads("C").removes("C", "A", "B", "H")
}

func spoilModule(m table.Module) {
	spoilList(m.Imports, "None")
	spoilList(m.Cmds, api.Entry{Name: "None"})
	for _, e := range m.Exports {
		spoilList(e.Line, 4)
	}
	spoilList(m.Exports, table.Export{Kind: 7})
	spoilList(m.Zone.Ptrs, 0)
	spoilList(m.Zone.Procs, 0)
}

func spoilList[E any](l []E, x E) {
	l = l[:cap(l)]
	for i := range l {
		l[i] = x
	}
}

// R3: beside an error that isn't a body's the outcome is a zero one, and beside New's there is no system.
func TestR3ZeroValues(t *testing.T) {
	if s, err := New(Config{Size: 1000, Modules: 5}); s != nil || err == nil {
		t.Errorf("New = %v, %v", s, err)
	}
	endless := module("Endless").body().ins(api.Jump, 0, 0, -1)
	g := newRig(t, 1024, 2, endless, module("A", "B"), module("B").key(1), module("D", "D1"), module("D1", "D2"), module("D2"), filler("Big", 756), noObject("Form"), module("X", "Y"), module("Y", "X"))
	g.put(line("A0", "A1", "A2", "A3", "A4", "A5", "A6", "A7", "A8", "A9")...)
	for s, want := range map[string]error{
		"": api.ErrName, "None": api.ErrNone, "Form": api.ErrForm, "A": api.ErrKey, "X": api.ErrCycle, "A0": api.ErrDepth, "D": api.ErrTable, "Big": api.ErrMemory,
	} {
		g.fails(s, want)
	}
	g.ends("Endless", 5, api.ErrFuel, out(5)).none("Endless", "Run")
}

// P1: whatever was done to what is the system's own, each call ends, none panics, and an error leaves all as it was.
func TestP1WhatOthersDid(t *testing.T) {
	for i, turn := range []func(s *System){
		// A zone where blocks are to lie.
		func(s *System) { s.Zones().Add(zone.Zone{Base: 272, Data: 276, Read: 280, End: 284}) },
		func(s *System) {
			s.Zones().Add(zone.Zone{Base: 280, Data: 65536, Read: 65536, End: 65536, Ptrs: []int{280, 1020, 1024, 65532}})
		},
		// A module's block is free again, though the module is there.
		func(s *System) { s.Load("B", enough); s.Heap().Give(272, 64) },
		func(s *System) { s.Load("B", enough); s.Zones().Remove(272) },
		func(s *System) { s.Load("B", enough); s.Table().Remove("B") },
		func(s *System) { s.Heap().Take(752) },
		// An import that tells what no module has.
		func(s *System) { s.Table().Add(table.Module{Name: "B", Key: keyOf("B")}) },
		func(s *System) {
			s.Table().Add(table.Module{Name: "B", Key: keyOf("B"), Base: 1 << 40, Size: -4, Exports: strange(math.MaxInt)})
		},
		func(s *System) {
			s.Table().Add(table.Module{Name: "B", Key: keyOf("B"), Base: math.MinInt, Size: math.MaxInt, Exports: strange(math.MinInt)})
		},
		func(s *System) {
			s.Table().Add(table.Module{Name: "B", Key: keyOf("B"), Base: 272, Size: 5, Exports: strange(3)})
		},
		func(s *System) {
			s.Table().Add(table.Module{Name: "A", Cmds: []api.Entry{{Name: "Run", At: math.MinInt}}})
		},
		func(s *System) { s.Table().Add(table.Module{Name: ""}) },
	} {
		s, err := New(Config{Size: 1024, Modules: 3})
		if err != nil {
			t.Fatal(err)
		}
		for _, x := range []*source{taker().cmd("Run").back(), giver(), module("C", "A")} {
			s.Files().Put(x.o.Name, x.file(t))
		}
		turn(s)
		g := &rig{t: t, s: s}
		for range 2 {
			for _, name := range []string{"A", "B", "C", ""} {
				before := g.state()
				o, err := s.Load(name, enough)
				if _, ok := err.(api.Code); err != nil && !ok {
					t.Errorf("%d: Load(%q) = %v", i, name, err)
				}
				if err != nil && (o != (api.Outcome{}) || !alike(before, g.state())) {
					t.Errorf("%d: behind %v there is %+v, and all is %+v, was %+v", i, err, o, g.state(), before)
				}
				s.Call(name, "Run", enough)
			}
			for _, name := range []string{"C", "A", "B", ""} {
				_, there := s.Table().Find(name)
				if there && s.Table().Refs(name) == 0 && !s.Remove(name) {
					t.Errorf("%d: Remove(%q) = false", i, name)
				}
			}
		}
	}
}

// strange are exports that lie nowhere.
func strange(at int) []table.Export {
	var l []table.Export
	for i := range 6 {
		l = append(l, table.Export{Kind: []int{api.Proc, api.Var, api.Rec}[i%3], At: at, Line: []int{at, at, at, at, at, at, at}[:i]})
	}
	return l
}

// P1: any calls with any arguments.
func TestP1AnyArguments(t *testing.T) {
	r := rand.New(rand.NewSource(201))
	texts := []string{"", "A", "B", "C", "Run", "1", "\x00", "\xff\xfe", "é", strings.Repeat("A", 17), strings.Repeat("A", 1<<20)}
	fuels := []int{math.MinInt, math.MinInt32, -1, 0, 1, 7, 2000, 2001, math.MaxInt32, 1 << 32, math.MaxInt}
	for range 200 {
		g := newRig(t, 1024, r.Intn(20)-2)
		for range 30 {
			text, cmd, fuel := texts[r.Intn(len(texts))], texts[r.Intn(len(texts))], fuels[r.Intn(len(fuels))]
			switch r.Intn(5) {
			case 0:
				b := make([]byte, r.Intn(60))
				r.Read(b)
				copy(b, "DW")
				if g.s.Files().Put(text, b) == nil {
					g.p.files[text] = sourceOf(b)
				}
			case 1:
				g.put([]*source{clerk(), counter("B"), module("C", "A", "B").cmd("Run").back()}[r.Intn(3)])
			case 2:
				g.load(text, fuel)
			case 3:
				g.call(text, cmd, fuel)
			case 4:
				g.remove(text)
			}
		}
	}
}

// An import that was told to lie just as far as a Call goes from where the first block may lie is too far from where this one does.
func TestP1AnImportThatIsFar(t *testing.T) {
	x := module("A", "B").ref(calls, 1, 1, 0).back()
	for _, taken := range []int{0, 100} {
		s, _ := New(Config{Size: 1024, Modules: 3})
		s.Files().Put("A", x.file(t))
		s.Table().Add(table.Module{Name: "B", Key: keyOf("B"), Exports: []table.Export{{Kind: api.Proc, At: 276 - 4*131072}}})
		if taken > 0 {
			s.Heap().Take(taken)
		}
		g := &rig{t: t, s: s}
		before := g.state()
		_, err := s.Load("A", enough)
		if taken == 0 && err != nil {
			t.Errorf("Load of one that is near: %v", err)
		}
		if taken > 0 && (err != error(api.ErrForm) || !alike(before, g.state())) {
			t.Errorf("Load of one that is far: %v, and all is %+v, was %+v", err, g.state(), before)
		}
	}
}
