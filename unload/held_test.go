package unload

import (
	"dowel/api"
	"dowel/zone"
	"slices"
	"strconv"
	"strings"
	"testing"
)

// Each place around three blocks, as the value of each cell of each of two holders: it holds the module whose block has it, from Base on, below End, but not its own.
func TestP21_1HeldAtEachPlace(t *testing.T) {
	for _, order := range [][]string{{"H", "A", "I"}, {"A", "H", "I"}, {"I", "H", "A"}} {
		g := newRig(t, 1024, 16, holder("H"), holder("I"), target("A")).loads(order...).lies(order...)
		for _, owner := range []string{"H", "I"} {
			for _, word := range slices.Concat(holderPtrs, holderProcs) {
				at := g.base(owner) + 4*word
				for v := 264; v < 272+2*holderSize+targetSize+8; v++ {
					g.poke(at, v)
					for _, s := range order {
						m, _ := g.s.Table().Find(s)
						want := s != owner && v >= m.Base && v < m.Base+m.Size
						if held := Held(g.s, s); held != want {
							t.Fatalf("%s's word %d tells %d: Held(%q) = %v, that lies from %d to %d", owner, word, v, s, held, m.Base, m.Base+m.Size)
						}
					}
				}
				g.poke(at, 0).holds(false, order...)
			}
		}
	}
}

// The edges of a block, which lies between others: Base, a place of its data, its types, its text, its code, its last word, its last byte; and those just outside.
func TestP21_1EdgesOfABlock(t *testing.T) {
	const a, end = 272 + holderSize, 272 + holderSize + targetSize
	for _, c := range []struct {
		value int
		held  bool
	}{
		{a - 4, false}, {a - 1, false}, {a, true}, {a + 1, true}, {a + 4, true}, {a + 7, true},
		{a + 8, true}, {a + 24, true}, {a + 28, true}, {a + 31, true}, {a + 32, true}, {a + 36, true},
		{end - 4, true}, {end - 1, true}, {end, false}, {end + 1, false}, {end + 4, false},
	} {
		for _, at := range []int{272, 276, 284, 288} {
			g := newRig(t, 1024, 16, holder("H"), target("A"), target("B")).loads("H", "A", "B").lies("H", "A", "B")
			g.poke(at, c.value).holds(c.held, "A").holds(c.value >= end, "B").holds(false, "H")
			if c.held {
				g.fails(api.ErrBusy, "A").poke(at, 0)
			}
			g.frees("A")
		}
	}
}

// Values that are no place, and such as would be one by fewer of their bits, or with a sign, hold none.
func TestP21_1ValuesThatHoldNone(t *testing.T) {
	g := newRig(t, 1024, 16, holder("H"), target("A")).loads("A", "H").lies("A", "H")
	h := g.base("H")
	for _, v := range []int{0, 1, 16, 268, 271, 1020, 65535, 272 | 1<<16, 272 | 1<<30, 272 | 1<<31, 1<<32 - 272, 1<<32 - 300, 1<<32 - 1, 1 << 31} {
		for _, word := range slices.Concat(holderPtrs, holderProcs) {
			g.poke(h+4*word, v).holds(false, "A", "H").poke(h+4*word, 0)
		}
	}
	g.frees("A")
}

// Each place that code can have a cell tell, of each kind; and such as it can't.
func TestP21_1HeldByCode(t *testing.T) {
	for word, kind := range map[int]int{0: 1, 1: 2, 3: 1, 4: 2} {
		for far := range targetSize {
			g := newRig(t, 1024, 16, holder("H"), target("A"), module("T", "H", "A").tell("Do", 1, word, 2, itsData, far))
			g.loads("H", "A").holds(false, "A", "H", "T").loads("T")
			o, err := g.s.Call("T", "Do", enough)
			fits := kind == 1 && far < 32 || kind == 2 && far >= 32 && far%4 == 0
			if err != nil || (o.End == api.Done) != fits || !fits && o.Trap != api.TrapPointer {
				t.Fatalf("the word %d is to tell %d: %+v, %v", word, far, o, err)
			}
			g.holds(fits, "A").holds(false, "H", "T").checkCells()
			g.fails(api.ErrBusy, "A", "H").frees("T").holds(fits, "A")
			if fits {
				g.fails(api.ErrBusy, "A").calls("H", "Clear"+strconv.Itoa(word)).holds(false, "A")
			}
			g.frees("A", "H")
		}
	}
}

// Each of several cells holds: all must let go.
func TestP21_1HeldBySeveral(t *testing.T) {
	g := newRig(t, 1024, 16, holder("H"), holder("I"), target("A")).loads("H", "A", "I")
	g.tells("H", 0, "A", 0).tells("H", 1, "A", 32).tells("H", 4, "A", 40).tells("I", 3, "A", 31)
	for _, c := range []struct{ holder, cmd string }{{"H", "Clear1"}, {"I", "Clear3"}, {"H", "Clear0"}, {"H", "Clear4"}} {
		g.holds(true, "A").fails(api.ErrBusy, "A").calls(c.holder, c.cmd)
	}
	g.holds(false, "A").frees("A")
}

// One cell of 32 is enough, wherever it stands.
func TestP21_1HeldByOneOfMany(t *testing.T) {
	x := module("M").data(64)
	for i := range 16 {
		x.ptrs(4 * i).procs(4*i + 1)
	}
	g := newRig(t, 2048, 16, x, target("A"), target("B")).loads("A", "M", "B")
	m, a, b := g.base("M"), g.base("A"), g.base("B")
	for i := range 64 {
		declared := i%4 < 2
		g.poke(m+4*i, a+i%targetSize).holds(declared, "A").holds(false, "B", "M")
		g.poke(m+4*i, b+i%targetSize).holds(declared, "B").holds(false, "A", "M").poke(m+4*i, 0)
	}
}

// A module isn't held by itself: each place of its own block, in each of its cells.
func TestP21_1NotHeldByItself(t *testing.T) {
	for _, word := range slices.Concat(holderPtrs, holderProcs) {
		g := newRig(t, 1024, 16, target("A"), holder("H"), target("B")).loads("A", "H", "B")
		h := g.base("H")
		for far := range holderSize {
			g.poke(h+4*word, h+far).holds(false, "A", "H", "B")
		}
		g.frees("H")
	}
}

// By what it did itself: its body has each of its cells tell a place of its own.
func TestP21_1NotHeldByItsBody(t *testing.T) {
	x := module("S").data(4).ptrs(0, 2).procs(1, 3).text("self").export(api.Var, 0).export(api.Proc, 0)
	x.body().tale(0, 0, 0, itsData, 0).tale(0, 2, 0, itsData, 19).tale(0, 1, 0, itsCode, 0).tale(0, 3, 0, itsCode, 64).back()
	g := newRig(t, 1024, 16, x).loads("S")
	g.has(Cell{272, 1, 272}, Cell{280, 1, 291}, Cell{276, 2, 292}, Cell{284, 2, 356}).holds(false, "S").checkCells()
	g.frees("S").has()
}

func TestP21_1HeldByItselfAndByAnother(t *testing.T) {
	g := newRig(t, 1024, 16, holder("H"), holder("I")).loads("H", "I")
	g.tells("H", 0, "H", 0).tells("H", 1, "H", 24).holds(false, "H", "I")
	g.tells("I", 3, "H", 0).holds(true, "H").holds(false, "I")
	g.tells("I", 4, "I", 24).holds(true, "H").holds(false, "I").fails(api.ErrBusy, "H")
	g.calls("I", "Clear3").holds(false, "H", "I").has(
		Cell{272, 1, 272}, Cell{284, 1, 0}, Cell{276, 2, 296}, Cell{288, 2, 0},
		Cell{360, 1, 0}, Cell{372, 1, 0}, Cell{364, 2, 0}, Cell{376, 2, 384})
	g.frees("H", "I")
}

// By a module that it imports, whose cell it had tell of itself; by one that imports it; by one that has nothing to do with it.
func TestP21_1WhoHolds(t *testing.T) {
	g := newRig(t, 1024, 16, holder("H"), target("A", "H").tell("Do", 1, 3, 0, itsData, 4)).loads("A")
	g.holds(false, "A", "H").calls("A", "Do").holds(true, "A").holds(false, "H").fails(api.ErrBusy, "A", "H")
	g.calls("H", "Clear3").holds(false, "A").frees("A", "H")

	importer := module("B", "A").data(1).ptrs(0).export(api.Var, 0).export(api.Proc, 0)
	importer.tell("Do", 0, 0, 1, itsData, 4).clear("Clear", 0, 0)
	g = newRig(t, 1024, 16, target("A"), importer).loads("B")
	g.holds(false, "A", "B").calls("B", "Do").holds(true, "A").holds(false, "B").fails(api.ErrBusy, "A")
	g.calls("B", "Clear").holds(false, "A").fails(api.ErrBusy, "A").calls("B", "Do").frees("B").holds(false, "A").frees("A")

	g = newRig(t, 1024, 16, holder("H"), target("A")).loads("A", "H").tells("H", 4, "A", 32)
	g.holds(true, "A").holds(false, "H").fails(api.ErrBusy, "A").frees("H").holds(false, "A").frees("A")
}

// A place that was told goes on from cell to cell, to modules that know nothing of where it lies.
func TestP21_1HeldByACopy(t *testing.T) {
	x := holder("I")
	x.o.Imports = []api.Import{{Name: "H", Key: keyOf("H")}}
	x.cmd("Copy").ref(addresses, 1, 1, itsData).ref(addresses, 2, 0, itsData).ins(api.Load, 3, 1, 0).ins(api.Store, 3, 2, 12).back()
	g := newRig(t, 1024, 16, holder("H"), x, target("A")).loads("I", "A").tells("H", 0, "A", 8)
	g.calls("I", "Copy").calls("H", "Clear0").holds(true, "A").fails(api.ErrBusy, "A")
	g.calls("I", "Copy").holds(false, "A").frees("A")
}

// Words that aren't declared, the stack, and what is only read hold none.
func TestP21_1OtherWordsHoldNone(t *testing.T) {
	g := newRig(t, 1024, 16, holder("H"), target("A"), target("B")).loads("H", "A", "B")
	h, a, b := g.base("H"), g.base("A"), g.base("B")
	for _, word := range holderPlain {
		g.tells("H", word, "A", 0)
	}
	for at := 16; at < 272; at += 4 {
		g.poke(at, a+4)
	}
	for at := h + 24; at < a; at += 4 {
		g.poke(at, a+36)
	}
	for at := b; at < 1024; at += 4 {
		g.poke(at, a)
	}
	g.holds(false, "H", "A", "B").frees("A", "B", "H")
}

// No module of that name: never put, in a file alone, no name at all, the empty one; whatever cells tell.
func TestP21_1HeldOfWhatIsNotThere(t *testing.T) {
	wrong := []string{"", "a", "AA", "B", "1", "H ", "é", "\xff", "\x00", "Abcdefghijklmnopq", strings.Repeat("A", 100000)}
	g := newRig(t, 1024, 16, holder("H"), target("A"), target("B")).holds(false, wrong...).holds(false, "A", "H")
	g.loads("H", "A").holds(false, wrong...)
	g.tells("H", 0, "A", 0).holds(false, wrong...).holds(true, "A")
	// Where it lay is told still, but it is gone.
	if !g.s.Remove("A") {
		t.Fatal("Remove(A) = false")
	}
	g.holds(false, wrong...).holds(false, "A", "H")
	// What lies there now is told.
	g.loads("B").lies("H", "B").holds(true, "B").holds(false, "A", "H")
}

// A cell of a zone that was added from outside holds, too, as long as the zone is there and the memory has its word.
func TestP21_1HeldFromOutside(t *testing.T) {
	g := newRig(t, 1024, 16, target("A")).loads("A")
	for _, z := range []zone.Zone{
		{Base: 800, Data: 808, Read: 808, End: 808, Ptrs: []int{804}},
		{Base: 1016, Data: 1032, Read: 1032, End: 1032, Ptrs: []int{1028, 1024}, Procs: []int{1020}},
	} {
		if err := g.s.Zones().Add(z); err != nil {
			t.Fatal(err)
		}
	}
	for _, at := range []int{804, 1020} {
		g.poke(at, 272).holds(true, "A").fails(api.ErrBusy, "A").poke(at, 0).holds(false, "A")
	}
	g.poke(804, 300).holds(true, "A")
	g.s.Zones().Remove(800)
	g.holds(false, "A").frees("A")
}
