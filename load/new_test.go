package load

import (
	"dowel/api"
	"dowel/heap"
	"dowel/mem"
	"dowel/table"
	"dowel/zone"
	"math"
	"slices"
	"testing"
)

func TestP20_1SizesThatMayNotBe(t *testing.T) {
	for _, size := range []int{0, 1, 4, -4, 16, 272, 276, 1000, 1020, 1021, 1022, 1023, 1025, 1026, 1027, 1030, 65533, 65534, 65535, 65537, 65538, 65540, 1 << 20, -1024, math.MaxInt, math.MaxInt - 3, math.MinInt, 1<<32 + 1024} {
		for _, modules := range []int{-1, 0, 1, 16, 17, math.MaxInt} {
			_, want := mem.New(size)
			s, err := New(Config{Size: size, Modules: modules})
			if s != nil || err == nil || err != error(api.ErrArg) || err != want {
				t.Errorf("New(%d, %d) = %v, %v, want %v", size, modules, s, err, want)
			}
		}
	}
	if s, err := New(Config{}); s != nil || err != error(api.ErrArg) {
		t.Errorf("New of nothing = %v, %v", s, err)
	}
}

func TestP20_1SizesThatMayBe(t *testing.T) {
	for _, size := range []int{1024, 1028, 1032, 2048, 4096, 65528, 65532, 65536} {
		s, err := New(Config{Size: size, Modules: 1})
		if err != nil || s == nil {
			t.Fatalf("New(%d): %v", size, err)
		}
		if s.Mem().Size() != size {
			t.Errorf("of %d bytes there are %d", size, s.Mem().Size())
		}
		if slices.ContainsFunc(s.Mem().Bytes(0, size), func(b byte) bool { return b != 0 }) {
			t.Errorf("of %d bytes not all are 0", size)
		}
		if holes := s.Heap().Holes(); !slices.Equal(holes, []heap.Hole{{At: 272, Size: size - 272}}) {
			t.Errorf("of %d bytes the holes are %v", size, holes)
		}
		if len(s.Zones().All()) != 0 || len(s.Table().Names()) != 0 || len(s.Files().Names()) != 0 {
			t.Errorf("of %d bytes there is something at first", size)
		}
	}
}

// The heap begins behind the stack, and ends where the memory does.
func TestP20_1WhereTheHeapLies(t *testing.T) {
	for _, size := range []int{1024, 65536} {
		g := newRig(t, size, 16, module("A"), module("B"))
		g.loads("A")
		if g.base("A") != 272 {
			t.Errorf("of %d bytes the first block lies at %d", size, g.base("A"))
		}
		if at := g.occupy(size - 276 - 4); at != 276 {
			t.Errorf("of %d bytes the second block lies at %d", size, at)
		}
		g.loads("B")
		if g.base("B") != size-4 {
			t.Errorf("of %d bytes the last block lies at %d", size, g.base("B"))
		}
	}
}

func TestP20_1RoomForModules(t *testing.T) {
	for _, c := range []struct{ modules, room int }{
		{math.MinInt, 0}, {-16, 0}, {-1, 0}, {0, 0}, {1, 1}, {2, 2}, {15, 15}, {16, 16}, {17, 16}, {1000, 16}, {math.MaxInt, 16},
	} {
		g := newRig(t, 4096, c.modules)
		if g.s.Table().Room() != c.room {
			t.Errorf("of %d there is room for %d, want %d", c.modules, g.s.Table().Room(), c.room)
		}
		names := []string{}
		for i := range 18 {
			names = append(names, "M"+string(rune('a'+i)))
			g.put(module(names[i]))
		}
		for i, s := range names {
			if i < c.room {
				g.loads(s)
			} else {
				g.fails(s, api.ErrTable)
			}
		}
	}
}

func TestP20_1TheyAreItsOwn(t *testing.T) {
	s, _ := New(Config{Size: 1024, Modules: 2})
	other, _ := New(Config{Size: 1024, Modules: 2})
	if s.Files() == nil || s.Mem() == nil || s.Heap() == nil || s.Zones() == nil || s.Table() == nil {
		t.Fatal("something isn't there")
	}
	if s.Files() != s.Files() || s.Mem() != s.Mem() || s.Heap() != s.Heap() || s.Zones() != s.Zones() || s.Table() != s.Table() {
		t.Error("they are others each time")
	}
	if s.Files() == other.Files() || s.Mem() == other.Mem() || s.Heap() == other.Heap() || s.Zones() == other.Zones() || s.Table() == other.Table() {
		t.Error("they are another system's")
	}
}

// What is done to one system is nothing to another one.
func TestP20_1SystemsAreApart(t *testing.T) {
	a := newRig(t, 1024, 4, module("A").data(2).text("hi").cmd("Go").back())
	b := newRig(t, 2048, 2, module("A").data(1))
	before := b.s.Mem().Bytes(0, 2048)
	a.loads("A")
	b.check()
	if len(b.s.Table().Names()) != 0 || !slices.Equal(b.s.Mem().Bytes(0, 2048), before) {
		t.Error("a load is seen in another system")
	}
	b.loads("A")
	a.check()
	a.removes("A")
	b.check()
	b.delete("A")
	a.loads("A")
}

func TestP20_1FilesAreMet(t *testing.T) {
	g := newRig(t, 1024, 4)
	g.fails("A", api.ErrNone)
	g.put(module("A").data(1))
	g.loads("A").removes("A")
	g.put(module("A").data(2))
	g.loads("A").removes("A")
	g.put(noObject("A"))
	g.fails("A", api.ErrForm)
	g.delete("A")
	g.fails("A", api.ErrNone)
}

func TestP20_1TheHeapIsMet(t *testing.T) {
	g := newRig(t, 1024, 4, module("A"), module("B").data(10))
	at := g.occupy(101)
	g.loads("A")
	if at != 272 || g.base("A") != 272+104 {
		t.Errorf("behind what was taken the block lies at %d", g.base("A"))
	}
	g.vacate(at, 101)
	g.loads("B")
	if g.base("B") != 272 {
		t.Errorf("in what was given back the block lies at %d", g.base("B"))
	}
	g.removes("B", "A")
	g.occupy(1024 - 272)
	g.fails("A", api.ErrMemory)
	// And what a load takes is met by who asks the heap.
	g.vacate(600, 8)
	g.loads("A")
	if at, err := g.s.Heap().Take(4); at != 604 || err != nil {
		t.Errorf("Take(4) = %d, %v", at, err)
	}
	if _, err := g.s.Heap().Take(4); err != error(api.ErrMemory) {
		t.Errorf("Take(4): %v", err)
	}
}

func TestP20_1TheMemoryIsMet(t *testing.T) {
	x := module("A").data(1).export(api.Var, 0)
	x.cmd("Get").ref(addresses, 1, 0, 0).ins(api.Load, 2, 1, 0).ins(api.Store, 2, 0, 16).back()
	g := newRig(t, 1024, 4, x).loads("A")
	g.poke(g.base("A"), 4711)
	g.calls("A", "Get", enough, api.Outcome{Steps: 4}).words(16, 4711)
	// The code is what lies there.
	g.poke(g.base("A")+4+8, 0)
	g.calls("A", "Get", enough, api.Outcome{End: api.Trapped, Trap: api.TrapCode, Steps: 2})
}

func TestP20_1TheZonesAreMet(t *testing.T) {
	x := module("A")
	x.cmd("Far").ins(api.Set, 1, 0, 900).ins(api.Store, 1, 1, 0).back()
	x.body().ins(api.Set, 1, 0, 904).ins(api.Store, 1, 1, 0).back()
	s, _ := New(Config{Size: 1024, Modules: 1})
	s.Files().Put("A", x.file(t))
	o, err := s.Load("A", enough)
	if err != error(api.ErrTrap) || o != (api.Outcome{End: api.Trapped, Trap: api.TrapRange, Steps: 1}) {
		t.Fatalf("without a zone: %+v, %v", o, err)
	}
	if err := s.Zones().Add(zone.Zone{Base: 900, Data: 908, Read: 908, End: 908}); err != nil {
		t.Fatal(err)
	}
	if o, err = s.Load("A", enough); err != nil || o != (api.Outcome{}) {
		t.Fatalf("with a zone: %+v, %v", o, err)
	}
	if o, err = s.Call("A", "Far", enough); err != nil || o != (api.Outcome{Steps: 3}) {
		t.Fatalf("with a zone: %+v, %v", o, err)
	}
	if w, _ := s.Mem().Word(904); w != 904 {
		t.Errorf("the word is %d", w)
	}
	if !s.Zones().Remove(272) {
		t.Fatal("the module's zone isn't there")
	}
	if o, err = s.Call("A", "Far", enough); err != nil || o != (api.Outcome{End: api.Trapped, Trap: api.TrapJump}) {
		t.Errorf("of a zone that is gone: %+v, %v", o, err)
	}
	if !s.Remove("A") || len(s.Zones().All()) != 1 || len(s.Heap().Holes()) != 1 {
		t.Error("it isn't gone as a whole")
	}
}

// A module that was added to the table is one that is loaded.
func TestP20_1TheTableIsMet(t *testing.T) {
	s, _ := New(Config{Size: 1024, Modules: 3})
	added := table.Module{
		Name: "B", Key: keyOf("B"), Base: 800, Size: 40,
		Exports: []table.Export{{Kind: api.Proc, At: 832}, {Kind: api.Var, At: 804}, {Kind: api.Rec, At: 816, Line: []int{700, 816}}},
		Cmds:    []api.Entry{{Name: "End", At: 4294967292}, {Name: "Out", At: 832}},
	}
	if err := s.Table().Add(added); err != nil {
		t.Fatal(err)
	}
	if o, err := s.Load("B", enough); err != nil || o != (api.Outcome{}) {
		t.Errorf("Load of what was added: %+v, %v", o, err)
	}
	if o, err := s.Call("B", "End", 0); err != nil || o != (api.Outcome{}) {
		t.Errorf("a call of the end: %+v, %v", o, err)
	}
	if o, err := s.Call("B", "Out", 5); err != nil || o != (api.Outcome{End: api.Trapped, Trap: api.TrapJump}) {
		t.Errorf("a call of what is in no zone: %+v, %v", o, err)
	}
	x := module("A", "B").rec(8, 1, 2).export(api.Rec, 0).ref(calls, 15, 1, 0).ref(addresses, 1, 1, 1).ref(types, 2, 1, 2).back()
	s.Files().Put("A", x.file(t))
	if o, err := s.Load("A", enough); err != nil || o != (api.Outcome{}) {
		t.Fatalf("Load of what imports it: %+v, %v", o, err)
	}
	for i, want := range []uint32{8, 700, 816, 0, word(api.Call, 15, 0, (832-292)/4), word(api.Set, 1, 0, 804), word(api.Set, 2, 0, 816)} {
		if w, _ := s.Mem().Word(272 + 4*i); w != want {
			t.Errorf("word %d is %x, want %x", i, w, want)
		}
	}
	m, _ := s.Table().Find("A")
	if !slices.Equal(m.Exports[0].Line, []int{700, 816, 272}) {
		t.Errorf("the line is %v", m.Exports[0].Line)
	}
	if s.Remove("B") || !s.Remove("A") || !s.Remove("B") || s.Remove("B") {
		t.Error("what is imported goes, or what isn't stays")
	}
	s.Table().Add(table.Module{Name: "B", Key: keyOf("B") + 1})
	if o, err := s.Load("A", enough); err != error(api.ErrKey) || o != (api.Outcome{}) {
		t.Errorf("with another key: %+v, %v", o, err)
	}
	for _, name := range []string{"C", "D"} {
		s.Table().Add(table.Module{Name: name})
	}
	s.Files().Put("E", module("E").file(t))
	if _, err := s.Load("E", enough); err != error(api.ErrTable) {
		t.Errorf("with a table that is full: %v", err)
	}
}
