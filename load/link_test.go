package load

import (
	"dowel/api"
	"dowel/table"
	"dowel/zone"
	"slices"
	"strconv"
	"strings"
	"testing"
)

// giver has three data words, two types, a text of five bytes, and three words of code; it exports two of each kind.
func giver() *source {
	x := module("B").data(3).rec(8, 0, -1).rec(12, 0, 0).text("hello")
	x.export(api.Proc, 1).export(api.Var, 2).export(api.Rec, 1).export(api.Proc, 0).export(api.Var, 0).export(api.Rec, 0)
	return x.ins(api.Set, 5, 0, 7).ins(api.More, 6, 6, 1).back()
}

// taker refers to all that it may refer to: of its own, and of B.
func taker() *source {
	x := module("A", "B").data(1).rec(4, 1, 5).text("hi").export(api.Proc, 4).export(api.Var, 0).export(api.Rec, 0)
	x.ref(calls, 15, 1, 0).ref(calls, 1, 1, 3).ref(calls, 13, 0, 0)
	x.ref(addresses, 0, 1, 0).ref(addresses, 1, 1, 1).ref(addresses, 2, 1, 4).ref(addresses, 3, 0, 0).ref(addresses, 4, 0, 1)
	x.ref(addresses, 5, 15, 0).ref(addresses, 6, 15, 1).ref(addresses, 15, 15, 2)
	return x.ref(types, 8, 1, 2).ref(types, 9, 1, 5).ref(types, 10, 0, 2).back()
}

// B lies at 272: its types at 284, its text at 316, its code at 324, and A at 336: its types at 340, its text at 356, its code at 360.
func TestP20_2EachKindOfReference(t *testing.T) {
	g := newRig(t, 1024, 2, taker(), giver())
	g.fill(272, 1024, 0xff)
	g.loads("A")
	want := []uint32{
		word(api.Call, 15, 0, -9), word(api.Call, 1, 0, -11), word(api.Call, 13, 0, 1),
		word(api.Set, 0, 0, 328), word(api.Set, 1, 0, 280), word(api.Set, 2, 0, 272), word(api.Set, 3, 0, 376), word(api.Set, 4, 0, 336),
		word(api.Set, 5, 0, 356), word(api.Set, 6, 0, 357), word(api.Set, 15, 0, 358),
		word(api.Set, 8, 0, 300), word(api.Set, 9, 0, 284), word(api.Set, 10, 0, 340), word(api.Go, 15, 0, 0),
	}
	for i, w := range want {
		if got := g.word(360 + 4*i); got != int(w) {
			t.Errorf("the instruction %d is %x, want %x", i, got, w)
		}
	}
	// Elsewhere it all lies elsewhere.
	g.removes("A", "B")
	g.occupy(100)
	g.loads("A")
	g.words(360+100, int(want[0]), int(want[1]), int(want[2]), int(word(api.Set, 0, 0, 428)))
	g.words(360+100+52, int(word(api.Set, 10, 0, 440)))
}

// The block of each, byte by byte, where other bytes lay.
func TestP20_2WhatLiesInABlock(t *testing.T) {
	g := newRig(t, 1024, 2, taker(), giver())
	g.fill(272, 1024, 0xff)
	g.loads("A")
	want := []byte{
		0, 0, 0, 0, 0, 0, 0, 0, 0, 0, 0, 0, // B's data
		8, 0, 0, 0, 0, 0, 0, 0, 0, 0, 0, 0, 0, 0, 0, 0, // of 8 bytes, extends nothing
		12, 0, 0, 0, 28, 1, 0, 0, 0, 0, 0, 0, 0, 0, 0, 0, // of 12 bytes, extends 284
		'h', 'e', 'l', 'l', 'o', 0, 0, 0,
		7, 0, 0x40, 0x05, // Set, A 5, N 7
		1, 0, 0x98, 0x2d, // More, A 6, B 6, N 1
		0, 0, 0xc0, 0x57, // Go, A 15
		0, 0, 0, 0, // A's data
		4, 0, 0, 0, 28, 1, 0, 0, 0, 0, 0, 0, 0, 0, 0, 0, // of 4 bytes, extends 284
		'h', 'i', 0, 0,
		0xf7, 0xff, 0xc3, 0x53, // Call, A 15, N -9
	}
	if got := g.s.Mem().Bytes(272, 272+len(want)); !slices.Equal(got, want) {
		t.Errorf("there lies\n%v, want\n%v", got, want)
	}
	if got := g.s.Mem().Bytes(420, 1024); slices.ContainsFunc(got, func(b byte) bool { return b != 0xff }) {
		t.Errorf("behind the blocks lies %v", got)
	}
	if got := g.s.Mem().Bytes(0, 272); slices.ContainsFunc(got, func(b byte) bool { return b != 0 }) {
		t.Errorf("ahead of the blocks lies %v", got)
	}
}

// Texts of each length: as many zeros are behind them as there are to be.
func TestP20_2Texts(t *testing.T) {
	for count := range 61 {
		g := newRig(t, 1024, 1, module("A").text(strings.Repeat("\xc3", count)).data(1))
		g.fill(272, 1024, 0xee)
		g.loads("A")
		for at, b := range g.s.Mem().Bytes(276, 276+(count+3)/4*4) {
			if at < count && b != 0xc3 || at >= count && b != 0 {
				t.Fatalf("of a text of %d bytes the byte %d is %d", count, at, b)
			}
		}
		g.words(276+(count+3)/4*4, int(word(api.Go, 15, 0, 0)))
	}
}

// Where data are 0, whatever lay there; behind a module that was removed too.
func TestP20_2DataAreZero(t *testing.T) {
	x := module("A").data(64)
	x.body().ins(api.Set, 1, 0, 272).ins(api.Set, 2, 0, 272+256).ins(api.Load, 3, 1, 0).ins(api.Or, 4, 4, 3).ins(api.Store, 2, 1, 0)
	x.ins(api.More, 1, 1, 4).ins(api.Less, 1, 2, -5).ins(api.Same, 4, 0, 1).ins(0, 0, 0, 0).back()
	g := newRig(t, 1024, 1, x)
	g.fill(272, 1024, 0xff)
	for range 3 {
		g.loads("A")
		g.words(272, slices.Repeat([]int{528}, 64)...)
		g.removes("A")
		g.words(272, slices.Repeat([]int{528}, 64)...)
	}
}

func TestP20_2ZonesAndModules(t *testing.T) {
	b := giver().ptrs(0, 2).procs(1).cmd("Last").cmd("Lost")
	b.o.Cmds[0].At, b.o.Cmds[1].At = 2, 0
	g := newRig(t, 1024, 3, taker().ptrs(0), b, module("C", "B", "A"))
	g.loads("C")
	zoneB := zone.Zone{Base: 272, Data: 284, Read: 324, End: 336, Ptrs: []int{272, 280}, Procs: []int{276}}
	zoneA := zone.Zone{Base: 336, Data: 340, Read: 360, End: 420, Ptrs: []int{336}}
	zoneC := zone.Zone{Base: 420, Data: 420, Read: 420, End: 424}
	if all := g.s.Zones().All(); !alike(all, []zone.Zone{zoneB, zoneA, zoneC}) {
		t.Errorf("the zones are %+v", all)
	}
	wantB := table.Module{
		Name: "B", Key: keyOf("B"), Base: 272, Size: 64, Zone: zoneB,
		Exports: []table.Export{
			{Kind: api.Proc, At: 328}, {Kind: api.Var, At: 280}, {Kind: api.Rec, At: 300, Line: []int{284, 300}},
			{Kind: api.Proc, At: 324}, {Kind: api.Var, At: 272}, {Kind: api.Rec, At: 284, Line: []int{284}},
		},
		Cmds: []api.Entry{{Name: "Last", At: 332}, {Name: "Lost", At: 324}},
	}
	wantA := table.Module{
		Name: "A", Key: keyOf("A"), Base: 336, Size: 84, Zone: zoneA, Imports: []string{"B"},
		Exports: []table.Export{{Kind: api.Proc, At: 376}, {Kind: api.Var, At: 336}, {Kind: api.Rec, At: 340, Line: []int{284, 340}}},
	}
	wantC := table.Module{Name: "C", Key: keyOf("C"), Base: 420, Size: 4, Zone: zoneC, Imports: []string{"B", "A"}}
	for _, want := range []table.Module{wantB, wantA, wantC} {
		if got, ok := g.s.Table().Find(want.Name); !ok || !alike(got, want) {
			t.Errorf("the table tells %+v, %v, want %+v", got, ok, want)
		}
	}
	if names := g.s.Table().Names(); !slices.Equal(names, []string{"B", "A", "C"}) {
		t.Errorf("the modules are %q", names)
	}
}

// Code goes where its references say, and back.
func TestP20_2CallsGoThere(t *testing.T) {
	b := module("B").data(1).export(api.Proc, 1).export(api.Var, 0)
	b.ins(0, 0, 0, 0).ref(addresses, 2, 0, 1).ins(api.Load, 3, 2, 0).ins(api.More, 3, 3, 1).ins(api.Store, 3, 2, 0).ins(api.Go, 13, 0, 0)
	a := module("A", "B").export(api.Proc, 2)
	a.cmd("Twice").ref(calls, 13, 1, 0).ref(calls, 13, 0, 0).ref(calls, 13, 1, 0).back()
	g := newRig(t, 1024, 2, a, b).loads("A")
	// The second call goes to what stands behind it.
	g.calls("A", "Twice", enough, api.Outcome{Steps: 14}).words(272, 2)
	g.calls("A", "Twice", enough, api.Outcome{Steps: 14}).words(272, 4)
	g.removes("A").loads("A").words(272, 4)
}

func TestP20_2ReferencesToWhatIsNotThere(t *testing.T) {
	kinds := []int{api.Proc, api.Var, api.Rec}
	fits := map[[2]int]bool{{calls, api.Proc}: true, {addresses, api.Proc}: true, {addresses, api.Var}: true, {types, api.Rec}: true}
	for which := range 3 {
		for _, kind := range kinds {
			for _, ent := range []int{0, 1, 2, 3, 62, 63} {
				b := module("B").data(1).rec(0, 0, -1).export(kind, 0).export(kind, 0)
				a := module("A", "C", "B").ref(which, 1, 2, ent).back()
				g := newRig(t, 1024, 3, a, b, module("C"))
				if fits[[2]int{which, kind}] && ent < 2 {
					g.loads("A")
				} else {
					g.fails("A", api.ErrForm)
					g.loads("B").fails("A", api.ErrForm)
				}
			}
		}
	}
}

// One of a chain's references means what isn't there: its first, one in the midst, its last.
func TestP20_2OneWrongReference(t *testing.T) {
	for which, kind := range []int{api.Proc, api.Var, api.Rec} {
		for _, wrong := range []int{1, 63} {
			for at := range 5 {
				b := module("B").data(1).rec(0, 0, -1).export(kind, 0)
				b.export((kind+1)%3, 0)
				if which == addresses {
					b.o.Exports[1].Kind = api.Rec
				}
				a := module("A", "B")
				for i := range 5 {
					if i == at {
						a.ref(which, 1, 1, wrong)
					} else {
						a.ref(which, 1, 1, 0)
					}
				}
				g := newRig(t, 1024, 3, a.back(), b, module("C", "A"))
				g.fails("A", api.ErrForm).fails("C", api.ErrForm)
			}
		}
	}
}

// The import that is meant is the one of that number, not one of another number or an import's import.
func TestP20_2WhichImportIsMeant(t *testing.T) {
	names := []string{"I1", "I2", "I3", "I4", "I5", "I6", "I7", "I8"}
	a, g := module("A", names...), newRig(t, 1024, 16)
	for i, s := range names {
		g.put(module(s).data(i+1).export(api.Var, i))
		a.ref(addresses, i, i+1, 0)
	}
	g.put(a.back())
	g.loads("I5", "I3", "A")
	for i, s := range names {
		g.words(g.base("A")+4*i, int(word(api.Set, i, 0, g.base(s)+4*i)))
	}
	g = newRig(t, 1024, 16, module("A", "B").ref(addresses, 1, 1, 0).back(), module("B", "C"), module("C").data(1).export(api.Var, 0))
	g.fails("A", api.ErrForm)
}

// tower has a type that extends a type of the module below it, as many as are told; on is how many of its own stand on that.
func tower(name, below string, on int) *source {
	x := module(name)
	if below == "" {
		x.rec(4, 0, -1)
	} else {
		x = module(name, below).rec(4, 1, 0)
	}
	for i := range on {
		x.rec(4*i, 0, i)
	}
	return x.export(api.Rec, on).ref(types, 1, 0, 0).back()
}

// Lines may have four places: their own, and three.
func TestP20_2Lines(t *testing.T) {
	for own := range 8 {
		g := newRig(t, 1024, 16, tower("A", "", own))
		if own > 3 {
			g.fails("A", api.ErrForm)
			continue
		}
		g.loads("A")
		m, _ := g.s.Table().Find("A")
		if want := []int{272, 288, 304, 320}[:own+1]; !slices.Equal(m.Exports[0].Line, want) {
			t.Errorf("the line is %v, want %v", m.Exports[0].Line, want)
		}
	}
}

func TestP20_2LinesOfImports(t *testing.T) {
	for a := range 4 {
		for b := range 4 {
			for c := range 4 {
				g := newRig(t, 2048, 16, tower("C", "B", c), tower("B", "A", b), tower("A", "", a))
				if a+b+c+3 <= 4 {
					g.loads("C")
					m, _ := g.s.Table().Find("C")
					if len(m.Exports[0].Line) != a+b+c+3 {
						t.Errorf("the line is %v", m.Exports[0].Line)
					}
					continue
				}
				g.fails("C", api.ErrForm)
				if a+b+2 <= 4 {
					// What is below it was no hindrance.
					g.loads("B").fails("C", api.ErrForm)
				} else {
					g.loads("A").fails("B", api.ErrForm).fails("C", api.ErrForm)
				}
			}
		}
	}
}

// Four modules, one on the other, and what their descriptors tell; a fifth one has no room.
func TestP20_2DescriptorsOfATower(t *testing.T) {
	g := newRig(t, 1024, 16, tower("E", "D", 0), tower("D", "C", 0), tower("C", "B", 0), tower("B", "A", 0), tower("A", "", 0))
	g.fill(272, 1024, 0x77)
	g.loads("D")
	// Each has 16 bytes of types, 8 of code.
	g.words(272, 4, 0, 0, 0).words(296, 4, 272, 0, 0).words(320, 4, 272, 296, 0).words(344, 4, 272, 296, 320)
	g.fails("E", api.ErrForm)
	g.put(tower("E", "C", 0))
	g.loads("E").words(368, 4, 272, 296, 320)
	m, _ := g.s.Table().Find("E")
	if !slices.Equal(m.Exports[0].Line, []int{272, 296, 320, 368}) {
		t.Errorf("the line is %v", m.Exports[0].Line)
	}
}

// Several types, of its own and of others, each with its own line.
func TestP20_2SeveralLines(t *testing.T) {
	c := module("C").rec(40, 0, -1).rec(44, 0, 0).rec(48, 0, -1).export(api.Rec, 2).export(api.Rec, 1).export(api.Rec, 1)
	b := module("B", "C").rec(8, 1, 1).rec(12, 1, 0).rec(16, 0, -1).rec(20, 0, 0).rec(24, 0, 1).rec(256, 0, 1).rec(0, 0, 2).rec(4, 1, 2)
	for i := range 8 {
		b.export(api.Rec, 7-i)
	}
	g := newRig(t, 1024, 16, b, c).loads("B")
	// C has its types at 272, 288, 304, and ends at 324; B's begin there.
	g.words(272, 40, 0, 0, 0).words(288, 44, 272, 0, 0).words(304, 48, 0, 0, 0)
	g.words(324, 8, 272, 288, 0, 12, 304, 0, 0, 16, 0, 0, 0, 20, 272, 288, 324)
	g.words(388, 24, 304, 340, 0, 256, 304, 340, 0, 0, 356, 0, 0, 4, 272, 288, 0)
	m, _ := g.s.Table().Find("B")
	want := [][]int{{272, 288, 436}, {356, 420}, {304, 340, 404}, {304, 340, 388}, {272, 288, 324, 372}, {356}, {304, 340}, {272, 288, 324}}
	for i, line := range want {
		if !slices.Equal(m.Exports[i].Line, line) {
			t.Errorf("the line of export %d is %v, want %v", i, m.Exports[i].Line, line)
		}
	}
}

func TestP20_2BasesThatAreNotThere(t *testing.T) {
	for _, kind := range []int{api.Proc, api.Var, api.Rec} {
		for _, base := range []int{0, 1, 2, 3, 63} {
			b := module("B").data(1).rec(0, 0, -1).export(kind, 0).export(kind, 0)
			a := module("A", "C", "B").rec(4, 2, base)
			g := newRig(t, 1024, 16, a, b, module("C").rec(0, 0, -1))
			if kind == api.Rec && base < 2 {
				g.loads("A")
			} else {
				g.fails("A", api.ErrForm)
				g.loads("B", "C").fails("A", api.ErrForm)
			}
		}
	}
}

// A type that isn't exported is one all the same: its line may not be too long, either.
func TestP20_2LinesThatNobodyAsksFor(t *testing.T) {
	x := module("A").rec(4, 0, -1).rec(4, 0, 0).rec(4, 0, 1).rec(4, 0, 2)
	g := newRig(t, 1024, 16, x)
	g.loads("A").removes("A")
	g.put(x.cloned().rec(4, 0, 3))
	g.fails("A", api.ErrForm)
	g.put(x.cloned().rec(4, 0, 2))
	g.loads("A")
}

// Linking's errors stand ahead of there being no block.
func TestP20_2LinkingAheadOfMemory(t *testing.T) {
	for i, x := range []*source{
		tower("A", "", 4),
		module("A", "B").rec(4, 1, 0).back(),
		module("A", "B").ref(calls, 1, 1, 0).back(),
		module("A", "B").ref(addresses, 1, 1, 9).back(),
		module("A", "B").ref(types, 1, 1, 63).back(),
	} {
		t.Run(strconv.Itoa(i), func(t *testing.T) {
			g := newRig(t, 1024, 16, x, module("B").data(1).export(api.Var, 0)).loads("B")
			at := g.occupy(752 - 8)
			g.fails("A", api.ErrForm)
			g.vacate(at, 4)
			g.fails("A", api.ErrForm)
			// With nothing to be told of it there is no block.
			g.put(module("A", "B").data(1))
			g.fails("A", api.ErrMemory)
			g.put(module("A", "B"))
			g.loads("A")
		})
	}
}
