package unload

import (
	"dowel/api"
	"dowel/heap"
	"dowel/table"
	"dowel/zone"
	"slices"
	"strings"
	"testing"
)

// The chapter's example: what another module imports is busy.
func TestP21_2Example(t *testing.T) {
	g := newRig(t, 1024, 16, module("A"), module("B", "A")).loads("B")
	g.fails(api.ErrBusy, "A").frees("B", "A")
}

// noNames are none.
var noNames = []string{"", "1", "1A", "_", "A_", "A-B", "A ", " A", "A\x00", "\x00", "é", "Aé", "\xff", "A\n", "Abcdefghijklmnopq", "A" + strings.Repeat("1", 16), strings.Repeat("A", 100000)}

func TestP21_2NoName(t *testing.T) {
	g := newRig(t, 1024, 16, module("A"), module("Abcdefghijklmnop"))
	g.fails(api.ErrName, noNames...).loads("A", "Abcdefghijklmnop").fails(api.ErrName, noNames...)
	g.frees("Abcdefghijklmnop", "A").fails(api.ErrName, noNames...)
}

// Each byte, alone and behind a letter.
func TestP21_2NamesByBytes(t *testing.T) {
	g := newRig(t, 1024, 16)
	for b := range 256 {
		letter := b >= 'a' && b <= 'z' || b >= 'A' && b <= 'Z'
		for s, ok := range map[string]bool{string([]byte{byte(b)}): letter, string([]byte{'Q', byte(b)}): letter || b >= '0' && b <= '9'} {
			if ok {
				g.fails(api.ErrNone, s)
			} else {
				g.fails(api.ErrName, s)
			}
		}
	}
}

// Never loaded; in a file that nobody loaded; freed already; undone by its load; its letters of another size.
func TestP21_2NotThere(t *testing.T) {
	g := newRig(t, 1024, 16, module("A"), module("B"), module("T").body().trap(), module("U", "V", "None"), module("V"))
	none := []string{"A", "B", "a", "AA", "None", "Abcdefghijklmnop", "a1", "z", "Z9"}
	g.fails(api.ErrNone, none...).loads("A").fails(api.ErrNone, none[1:]...)
	g.frees("A").fails(api.ErrNone, none...)
	g.loads("B", "A").frees("B").fails(api.ErrNone, "B", "a").frees("A").fails(api.ErrNone, none...)
	for name, want := range map[string]error{"T": api.ErrTrap, "U": api.ErrNone} {
		if _, err := g.s.Load(name, enough); err != want {
			t.Fatalf("Load(%q): %v", name, err)
		}
		g.fails(api.ErrNone, "T", "U", "V")
	}
	if err := g.s.Files().Delete("A"); err != nil {
		t.Fatal(err)
	}
	g.fails(api.ErrNone, "A")
}

// Imported by one, by several, by such as are imported themselves: as long as there is one.
func TestP21_2Imported(t *testing.T) {
	g := newRig(t, 1024, 16, module("A", "B", "C"), module("B", "C"), module("C"), module("D", "C", "B")).loads("A", "D")
	g.holds(false, "A", "B", "C", "D").fails(api.ErrBusy, "B", "C").frees("A").fails(api.ErrBusy, "B", "C")
	g.frees("D").fails(api.ErrBusy, "C").frees("B", "C")
	// As many as there may be.
	g = newRig(t, 1024, 16, module("C"))
	var names []string
	for i := range 15 {
		names = append(names, "M"+string(rune('A'+i)))
		g.put(module(names[i], "C"))
	}
	g.loads(names...)
	for i := range 15 {
		g.fails(api.ErrBusy, "C").frees(names[(7*i+3)%15])
	}
	g.frees("C")
}

// Held and not imported, imported and held, imported alone: either is enough, and each of both must end.
func TestP21_2HeldAndImported(t *testing.T) {
	for _, first := range []string{"let go", "freed"} {
		g := newRig(t, 1024, 16, holder("H"), target("A"), module("B", "A")).loads("H", "B").tells("H", 3, "A", 30)
		g.holds(true, "A").holds(false, "B", "H").fails(api.ErrBusy, "A")
		if first == "freed" {
			g.frees("B").holds(true, "A").fails(api.ErrBusy, "A").calls("H", "Clear3")
		} else {
			g.calls("H", "Clear3").holds(false, "A").fails(api.ErrBusy, "A").frees("B")
		}
		g.holds(false, "A").frees("A", "H")
	}
}

// R1: of two errors that apply the one stands that the chapter names first.
func TestR1ErrorsTogether(t *testing.T) {
	// No name, and not there.
	g := newRig(t, 1024, 16, holder("H"), target("A")).fails(api.ErrName, noNames...)
	// No name, and a module of that name is there, which is imported, and held.
	for i, s := range []string{"", "1", "A-B", "Abcdefghijklmnopq"} {
		at := 600 + 16*i
		z := zone.Zone{Base: at, Data: at + 8, Read: at + 8, End: at + 16, Ptrs: []int{at}}
		for _, m := range []table.Module{{Name: s, Base: at, Size: 16, Zone: z}, {Name: "Is" + string(rune('A'+i)), Imports: []string{s}}} {
			if err := g.s.Table().Add(m); err != nil {
				t.Fatal(err)
			}
		}
		if err := g.s.Zones().Add(z); err != nil {
			t.Fatal(err)
		}
		g.fails(api.ErrName, s).poke(at, at)
	}
	for i, s := range []string{"", "1", "A-B", "Abcdefghijklmnopq"} {
		g.poke(600+16*((i+1)%4), 600+16*i+8).holds(true, s).fails(api.ErrName, s)
	}
	// Not there, and cells tell where it lay.
	g = newRig(t, 1024, 16, holder("H"), target("A")).loads("H", "A").tells("H", 0, "A", 0).tells("H", 4, "A", 32)
	g.fails(api.ErrBusy, "A")
	if !g.s.Remove("A") {
		t.Fatal("Remove(A) = false")
	}
	g.fails(api.ErrNone, "A").frees("H")
}

// Without an error its block is free, its zone gone, its place in the table empty; what lies there, and all other cells, stay.
func TestP21_2WhatIsFreedIsGone(t *testing.T) {
	g := newRig(t, 1024, 4, holder("H"), holder("A"), target("B")).loads("H", "A", "B")
	h, a, b := 272, 272+holderSize, 272+2*holderSize
	g.tells("A", 0, "B", 1).tells("A", 1, "A", 24).tells("A", 3, "H", 2).tells("H", 3, "B", 8).tells("H", 0, "H", 20).tells("H", 2, "A", 40)
	g.fill(a+8, a+12, 0x77).holds(true, "H", "B").holds(false, "A")
	before := g.s.Mem().Bytes(0, 1024)
	if err := Free(g.s, "A"); err != nil {
		t.Fatalf("Free: %v", err)
	}
	if after := g.s.Mem().Bytes(0, 1024); !slices.Equal(before, after) {
		t.Error("a byte is changed")
	}
	if names := g.s.Table().Names(); !slices.Equal(names, []string{"H", "B"}) || g.s.Table().Room() != 2 {
		t.Errorf("the modules are %q", names)
	}
	if holes := g.s.Heap().Holes(); !slices.Equal(holes, []heap.Hole{{At: a, Size: holderSize}, {At: b + targetSize, Size: 1024 - b - targetSize}}) {
		t.Errorf("the holes are %v", holes)
	}
	if z := g.s.Zones().All(); len(z) != 2 || z[0].Base != h || z[1].Base != b {
		t.Errorf("the zones are %v", z)
	}
	z := g.s.Zones()
	if z.CanLoad(a, 1) || z.CanStore(a+20, 4) || z.CanRun(a+24) || z.Cell(a) != 0 || z.Fits(1, a) || z.Fits(2, a+24) {
		t.Error("its zone isn't gone")
	}
	// It is called no more, and holds no more.
	if _, err := g.s.Call("A", "Clear0", enough); err != error(api.ErrNone) {
		t.Errorf("Call: %v", err)
	}
	g.has(Cell{h, 1, h + 20}, Cell{h + 12, 1, b + 8}, Cell{h + 4, 2, 0}, Cell{h + 16, 2, 0}).holds(false, "H", "A").holds(true, "B")
	g.words(a, b+1, a+24, 0x77777777, h+2).words(h+8, a+40)
}

// Each of several, in any order, where none needs another: all is as at first.
func TestP21_2AnyOrder(t *testing.T) {
	for _, order := range [][]string{{"A", "B", "C"}, {"A", "C", "B"}, {"B", "A", "C"}, {"B", "C", "A"}, {"C", "A", "B"}, {"C", "B", "A"}} {
		g := newRig(t, 1024, 3, filler("A", 44), holder("B"), filler("C", 100))
		before := g.state()
		g.loads("A", "B", "C")
		for i, s := range order {
			g.frees(s).fails(api.ErrNone, order[:i+1]...)
		}
		if after := g.state(); !alike(after.Holes, before.Holes) || len(after.Names) != 0 || len(after.Zones) != 0 {
			t.Errorf("all is %+v, was %+v", after, before)
		}
	}
}

// A holder lets go when its cell is 0, when that tells another place, when it is freed itself.
func TestP21_2LetGo(t *testing.T) {
	for _, word := range slices.Concat(holderPtrs, holderProcs) {
		far := 0
		if slices.Contains(holderProcs, word) {
			far = 32
		}
		g := newRig(t, 1024, 16, holder("H"), target("A"), target("B")).loads("A", "H", "B")
		g.tells("H", word, "A", far).fails(api.ErrBusy, "A")
		g.tells("H", word, "B", far).holds(false, "A").fails(api.ErrBusy, "B").frees("A")
		g.loads("A").tells("H", word, "A", far).fails(api.ErrBusy, "A").frees("B")
		g.tells("H", word, "H", 8+far/2).holds(false, "A", "H").frees("A")
		g.loads("A").tells("H", word, "A", far).fails(api.ErrBusy, "A").poke(g.base("H")+4*word, 0).frees("A")
		g.loads("A").tells("H", word, "A", far).fails(api.ErrBusy, "A").frees("H", "A")
	}
}

// Modules that hold each other, two and three: none goes till one lets go.
func TestP21_2HeldByEachOther(t *testing.T) {
	g := newRig(t, 1024, 16, holder("H"), holder("I"), holder("J")).loads("H", "I", "J")
	g.tells("H", 0, "I", 0).tells("I", 1, "H", 24).holds(true, "H", "I").fails(api.ErrBusy, "H", "I")
	g.calls("I", "Clear1").fails(api.ErrBusy, "I").frees("H", "I").loads("H", "I")
	g.tells("H", 0, "I", 0).tells("I", 3, "J", 0).tells("J", 4, "H", 28).fails(api.ErrBusy, "H", "I", "J")
	g.calls("I", "Clear3").fails(api.ErrBusy, "H", "I").frees("J").fails(api.ErrBusy, "I").frees("H", "I")
}

// One that is held by itself alone is freed, though each of its cells tells its own block.
func TestP21_2HeldByItselfAlone(t *testing.T) {
	g := newRig(t, 1024, 16, holder("H"), target("A")).loads("A", "H")
	g.tells("H", 0, "H", 0).tells("H", 3, "H", 23).tells("H", 1, "H", 24).tells("H", 4, "H", holderSize-4).holds(false, "H", "A").frees("H")
	g.loads("H").tells("H", 0, "H", 0).tells("H", 3, "A", 0).holds(true, "A").frees("H").has()
}

// book counts in its first word how often counters ran.
func book() *source { return module("Book").data(1).export(api.Var, 0) }

// counter counts its own runs in its first word, and the book's; then its own three words are others than 0.
func counter(name string) *source {
	x := module(name, "Book").data(3).ptrs(2).export(api.Var, 0).body()
	for mod := range 2 {
		x.ref(addresses, 1, mod, 0).ins(api.Load, 2, 1, 0).ins(api.More, 2, 2, 1).ins(api.Store, 2, 1, 0)
	}
	return x.ref(addresses, 1, 0, 0).ins(api.Load, 2, 1, 4).ins(api.More, 2, 2, 9).ins(api.Store, 2, 1, 4).ins(api.Store, 1, 1, 8).back()
}

// What is freed can be loaded again: its body is run again, and its data are 0 when that begins, where it lay or elsewhere.
func TestP21_2LoadedAgain(t *testing.T) {
	g := newRig(t, 1024, 16, book(), counter("A"), filler("F", 8), filler("G", 60))
	g.loads("Book")
	book := g.base("Book")
	for i := range 6 {
		g.loads("A").words(book, i+1)
		a := g.base("A")
		g.words(a, 1, 9, a).fails(api.ErrBusy, "Book").fill(a, a+8, 0xee).frees("A")
		switch i {
		case 2:
			// Others lie there now.
			g.loads("F", "G")
		case 4:
			g.frees("F")
		}
	}
	g.frees("G", "Book")
	// Another module of that name, with another key.
	g.loads("A").frees("A").put(counter("A").key(9).data(5)).loads("A").words(g.base("A"), 1, 9, g.base("A"), 0, 0)
	if m, _ := g.s.Table().Find("A"); m.Key != 9 {
		t.Errorf("the key is %d", m.Key)
	}
	g.frees("A", "Book")
}

// What a file is by then isn't asked.
func TestP21_2FilesAreNotAsked(t *testing.T) {
	g := newRig(t, 1024, 16, module("A"), module("B", "A")).loads("B")
	g.put(module("B"), target("A"), &source{o: api.Object{Name: "C"}, bytes: []byte{}})
	g.fails(api.ErrBusy, "A").fails(api.ErrNone, "C")
	for _, s := range []string{"A", "B"} {
		if err := g.s.Files().Delete(s); err != nil {
			t.Fatal(err)
		}
	}
	g.fails(api.ErrBusy, "A").frees("B", "A")
}
