package load

import (
	"dowel/api"
	"dowel/ins"
	"dowel/obj"
	"math"
	"strconv"
	"strings"
	"testing"
)

func TestP20_2Example(t *testing.T) {
	g := newRig(t, 1024, 16, module("A", "B"))
	g.fails("A", api.ErrNone)
	g.put(module("B"))
	g.loads("A")
}

func TestP20_2OneModule(t *testing.T) {
	for _, s := range []string{"A", "z9", "List", "abcdefghijklmnop"} {
		g := newRig(t, 1024, 1, module(s))
		for _, fuel := range []int{math.MinInt, -1, 0, 1, 2000, 2001, math.MaxInt} {
			if o, err := g.load(s, fuel); err != nil || o != (api.Outcome{}) {
				t.Fatalf("Load(%q, %d) = %+v, %v", s, fuel, o, err)
			}
			g.words(272, int(word(api.Go, 15, 0, 0))).removes(s)
		}
	}
}

// What is loaded already isn't looked at again: there is neither a file to be asked, nor a body to be run.
func TestP20_2LoadedAlready(t *testing.T) {
	b := counter("B")
	a := module("A", "B").body().ins(api.Set, 1, 0, 1).back()
	g := newRig(t, 1024, 2, a, b).loads("A")
	g.words(g.base("B"), 1)
	g.fill(g.base("A"), g.base("A")+4, 0xff)
	for _, turn := range []func(){
		func() {},
		func() { g.put(noObject("A"), noObject("B", 1, 2, 3)) },
		func() { g.put(module("A", "B", "C").key(1), module("B").key(2).spoil()) },
		func() { g.putAs("A", module("Other")) },
		func() { g.delete("A"); g.delete("B") },
		func() { g.occupy(g.p.holes()[0].Size) },
	} {
		turn()
		for _, fuel := range []int{math.MinInt, -1, 0, 1, 100, math.MaxInt} {
			for _, s := range []string{"A", "B"} {
				if o, err := g.load(s, fuel); err != nil || o != (api.Outcome{}) {
					t.Fatalf("Load(%q, %d) of what is loaded = %+v, %v", s, fuel, o, err)
				}
			}
		}
	}
	g.words(g.base("B"), 1)
}

func TestP20_2NamesThatAreNone(t *testing.T) {
	g := newRig(t, 1024, 2, module("A"), module("B"))
	for _, s := range []string{"", " ", "1", "1A", "A ", " A", "A.B", "A\x00", "é", "Aé", "\xff", "abcdefghijklmnopq", strings.Repeat("A", 100000)} {
		g.fails(s, api.ErrName)
	}
	g.loads("A").fails("a", api.ErrNone).fails("1A", api.ErrName).fails("AA", api.ErrNone)
}

func TestP20_2NoFile(t *testing.T) {
	g := newRig(t, 1024, 16, module("A", "B"), module("C", "D", "None"), module("D"), module("E", "C"))
	g.fails("None", api.ErrNone).fails("b", api.ErrNone)
	g.fails("A", api.ErrNone).fails("C", api.ErrNone).fails("E", api.ErrNone)
	g.put(module("B"))
	g.loads("A").fails("E", api.ErrNone)
	g.delete("A")
	g.removes("A").fails("A", api.ErrNone)
}

func TestP20_2FilesThatAreNoObjects(t *testing.T) {
	x := module("A").data(2).text("hello").rec(8, 0, -1).export(api.Rec, 0).ptrs(1).cmd("C").back()
	b := x.file(t)
	g := newRig(t, 1024, 2, module("B", "A"))
	wrong := [][]byte{{}, {0}, []byte("DW"), []byte("hello"), append([]byte{'W', 'D'}, b[2:]...), append(b[:len(b):len(b)], 0), make([]byte, 4000)}
	for n := range b {
		wrong = append(wrong, b[:n])
	}
	for _, bytes := range wrong {
		g.put(noObject("A", bytes...))
		g.fails("A", api.ErrForm).fails("B", api.ErrForm)
	}
	g.put(x)
	g.loads("B")
}

func TestP20_2ObjectsThatMayNotBeModules(t *testing.T) {
	for i, turn := range []func(o *api.Object){
		func(o *api.Object) { o.Name = "" },
		func(o *api.Object) { o.Imports[0].Name = "A" },
		func(o *api.Object) { o.Imports[0].Name = "1" },
		func(o *api.Object) { o.Imports = append(o.Imports, o.Imports[0]) },
		func(o *api.Object) { o.Data = 65 },
		func(o *api.Object) { o.Text = strings.Repeat("x", 61) },
		func(o *api.Object) { o.Code = nil },
		func(o *api.Object) { o.Types[0].Size = 6 },
		func(o *api.Object) { o.Types[0].Base = 0 },
		func(o *api.Object) { o.Types[0].Mod = 2; o.Types[0].Base = 0 },
		func(o *api.Object) { o.Cmds[0].At = 3 },
		func(o *api.Object) { o.Exports[0].At = 3 },
		func(o *api.Object) { o.Exports[0].Kind = 3 },
		func(o *api.Object) { o.Ptrs = []int{4} },
		func(o *api.Object) { o.Procs = []int{0} },
		func(o *api.Object) { o.Body = 4 },
		func(o *api.Object) { o.Fix[0] = 1 },
		func(o *api.Object) { o.Fix[0] = 4 },
		func(o *api.Object) { o.Code[2] = word(api.Call, 15, 0, 2<<6) },
		func(o *api.Object) { o.Code[2] = word(api.Call, 15, 1, 0) },
		func(o *api.Object) { o.Code[2] = word(api.Call, 15, 0, 1) },
	} {
		t.Run(strconv.Itoa(i), func(t *testing.T) {
			x := module("A", "B").data(4).rec(8, 0, -1).ptrs(0).export(api.Proc, 1).cmd("C").back().back().ref(calls, 15, 0, 0)
			g := newRig(t, 1024, 3, x, module("B"), module("C", "A"))
			g.loads("C").removes("C", "A", "B")
			x = x.cloned()
			turn(&x.o)
			x.wrong = true
			g.putAs("A", x)
			g.fails("A", api.ErrForm).fails("C", api.ErrForm).loads("B")
		})
	}
}

func TestP20_2FilesOfAnotherName(t *testing.T) {
	g := newRig(t, 1024, 3, module("A"), module("C", "A"))
	for _, s := range []string{"B", "a", "AA", "C"} {
		g.putAs("A", module(s))
		g.fails("A", api.ErrForm).fails("C", api.ErrForm)
	}
	g.put(module("A"))
	g.loads("C")
}

func TestP20_2Keys(t *testing.T) {
	for _, key := range []uint32{keyOf("B") + 1, keyOf("B") - 1, 0, 1<<32 - 1, keyOf("B") ^ 1<<31} {
		// Of one that comes in, and of one that is loaded.
		g := newRig(t, 1024, 3, module("A", "B"), module("B").key(key), module("C", "A"))
		g.fails("A", api.ErrKey).fails("C", api.ErrKey)
		g.loads("B").fails("A", api.ErrKey)
		g.put(module("B"))
		g.fails("A", api.ErrKey)
		g.removes("B").loads("C")
	}
	// All 32 bits are asked.
	x := module("A")
	x.o.Imports = []api.Import{{Name: "B", Key: 1<<32 - 1}}
	g := newRig(t, 1024, 3, x, module("B").key(1<<32-1))
	g.loads("A")
}

func TestP20_2Cycles(t *testing.T) {
	g := newRig(t, 1024, 16, module("A", "B"), module("B", "A"), module("C", "D"), module("D", "E"), module("E", "F", "C"), module("F"))
	for _, s := range []string{"A", "B", "C", "D", "E"} {
		g.fails(s, api.ErrCycle)
	}
	// Where one of them is loaded there is none.
	g.put(module("E", "F"))
	g.loads("E")
	g.put(module("E", "F", "C"))
	g.loads("C")
	g.fails("A", api.ErrCycle)
}

// line are modules that each import the next one.
func line(names ...string) []*source {
	var l []*source
	for i, s := range names {
		l = append(l, module(s, names[i+1:min(i+2, len(names))]...))
	}
	return l
}

func TestP20_2Depth(t *testing.T) {
	names := []string{"A", "B", "C", "D", "E", "F", "G", "H", "I", "J", "K", "L"}
	for count := 1; count <= len(names); count++ {
		g := newRig(t, 1024, 16, line(names[:count]...)...)
		if count > 9 {
			g.fails("A", api.ErrDepth)
			// What is loaded isn't deep.
			g.loads(names[count-9])
		}
		g.loads("A")
		if g.base(names[count-1]) != 272 || g.base("A") != 272+4*(count-1) {
			t.Errorf("of %d modules the last one lies at %d, the first one at %d", count, g.base(names[count-1]), g.base("A"))
		}
	}
}

func TestP20_2Room(t *testing.T) {
	names := []string{"A", "B", "C", "D", "E", "F", "G", "H"}
	for room := range 10 {
		for count := 1; count <= len(names); count++ {
			g := newRig(t, 1024, room, line(names[:count]...)...)
			if count > room {
				g.fails("A", api.ErrTable)
				// What is loaded needs no room.
				if room > 0 {
					g.loads(names[count-room])
					g.fails("A", api.ErrTable)
				}
				continue
			}
			g.loads("A")
		}
	}
}

func TestP20_2RoomBesideOthers(t *testing.T) {
	g := newRig(t, 1024, 5, module("X"), module("Y"), module("Z"), module("A", "B", "C"), module("B"), module("C", "B"))
	g.loads("X", "Y", "Z").fails("A", api.ErrTable)
	g.removes("Y").loads("A").fails("Y", api.ErrTable)
	g.removes("A").loads("Y").fails("A", api.ErrTable)
	g.removes("C", "X").loads("A")
}

// filler is a module of just so many bytes, a multiple of 4.
func filler(name string, size int, imports ...string) *source {
	x := module(name, imports...).data(min(size/4-1, 64))
	for x.size() < size {
		x.back()
	}
	if x.size() != size {
		panic("not so many")
	}
	return x
}

func TestP20_2NoBlock(t *testing.T) {
	for _, size := range []int{8, 12, 100, 500, 748, 752} {
		for _, room := range []int{size - 8, size - 4, size, size + 4, size + 8} {
			if room < 4 || room > 752 {
				continue
			}
			g := newRig(t, 1024, 4, filler("A", size))
			if room < 752 {
				g.occupy(752 - room)
			}
			if size > room {
				g.fails("A", api.ErrMemory)
			} else {
				g.loads("A")
			}
		}
	}
	g := newRig(t, 1024, 4, filler("A", 756))
	g.fails("A", api.ErrMemory)
}

// The one ahead of the last one, or all but the last one, fit.
func TestP20_2NoBlockForALaterOne(t *testing.T) {
	for _, c := range []struct{ a, b, c int }{{752 - 40 - 60 + 4, 60, 40}, {752, 60, 40}, {4 + 4, 752, 40}, {8, 8, 756}, {8, 740, 12}} {
		g := newRig(t, 1024, 4, filler("A", c.a, "B"), filler("B", c.b, "C"), filler("C", c.c))
		g.fill(272, 1024, 0xa5)
		g.fails("A", api.ErrMemory)
	}
	g := newRig(t, 1024, 4, filler("A", 752-40-60, "B"), filler("B", 60, "C"), filler("C", 40))
	g.loads("A")
	if len(g.s.Heap().Holes()) != 0 {
		t.Error("it doesn't just fit")
	}
}

// The first hole that is great enough is taken, be it just so great; one 4 bytes too small is passed over.
func TestP20_2Holes(t *testing.T) {
	for size := 8; size <= 80; size += 4 {
		g := newRig(t, 1024, 16, filler("A", size))
		// Holes of 8, 16, 24 and so on, each behind 4 bytes that are taken.
		at := g.occupy(752)
		for hole := 8; hole <= 64; hole += 8 {
			g.vacate(at+4, hole)
			at += 4 + hole
		}
		if size > 64 {
			g.fails("A", api.ErrMemory)
			continue
		}
		g.loads("A")
		want := 276
		for hole := 8; hole < size; hole += 8 {
			want += hole + 4
		}
		if g.base("A") != want {
			t.Errorf("%d bytes lie at %d, want %d", size, g.base("A"), want)
		}
	}
}

// Each of a load's modules has the first hole that is great enough for it, in their order.
func TestP20_2HolesOfSeveral(t *testing.T) {
	g := newRig(t, 1024, 16, filler("A", 40, "B", "C"), filler("B", 60), filler("C", 20))
	at := g.occupy(752)
	g.vacate(at+4, 36)
	g.vacate(at+44, 60)
	g.vacate(at+108, 44)
	g.loads("A")
	if g.base("B") != at+44 || g.base("C") != at+4 || g.base("A") != at+108 {
		t.Errorf("they lie at %d, %d, %d", g.base("B"), g.base("C"), g.base("A"))
	}
	g.removes("A", "B", "C")
	g.occupy(60)
	g.fails("A", api.ErrMemory)
}

// The greatest module that may be.
func TestP20_2TheGreatest(t *testing.T) {
	x := module("Greatest16Letter").data(64).text(strings.Repeat("T", 60))
	for range 8 {
		x.rec(256, 0, -1)
	}
	for i := range 64 {
		x.export(i%3, []int{255, 63, 7}[i%3])
	}
	for i := range 32 {
		if i%2 == 0 {
			x.ptrs(2 * i)
		} else {
			x.procs(2*i + 1)
		}
	}
	for x.here() < 256 {
		x.back()
	}
	for _, s := range []string{"a", "b", "c", "d", "e", "f", "g", "h"} {
		x.o.Cmds = append(x.o.Cmds, api.Entry{Name: s, At: 255})
	}
	x.o.Body = 256
	g := newRig(t, 2048, 1, x).loads(x.o.Name)
	g.calls(x.o.Name, "h", 1, api.Outcome{Steps: 1})
	g = newRig(t, 1024, 1, x)
	g.fails(x.o.Name, api.ErrMemory)
	// It has 256 + 128 + 60 + 1024 bytes.
	g = newRig(t, 272+1468, 1, x).loads(x.o.Name)
	g = newRig(t, 272+1464, 1, x)
	g.fails(x.o.Name, api.ErrMemory)
}

// Bytes that another one of the program's layers has put are loaded, as those that a test writes.
func TestP20_2BytesOfAnObject(t *testing.T) {
	w, err := ins.Put(api.Ins{Op: api.Go, A: 15})
	if err != nil {
		t.Fatal(err)
	}
	b, err := obj.Put(api.Object{Name: "A", Code: []uint32{w}, Cmds: []api.Entry{{Name: "Run", At: 0}}})
	if err != nil {
		t.Fatal(err)
	}
	s, err := New(Config{Size: 1024, Modules: 1})
	if err != nil {
		t.Fatal(err)
	}
	if err := s.Files().Put("A", b); err != nil {
		t.Fatal(err)
	}
	if o, err := s.Load("A", 0); err != nil || o != (api.Outcome{}) {
		t.Fatalf("Load: %+v, %v", o, err)
	}
	if o, err := s.Call("A", "Run", 1); err != nil || o != (api.Outcome{End: api.Done, Steps: 1}) {
		t.Fatalf("Call: %+v, %v", o, err)
	}
}

// counter is a module whose body counts, in its first data word, how often it was run.
func counter(name string, imports ...string) *source {
	x := module(name, imports...).data(1).export(api.Var, 0)
	return x.body().ref(addresses, 1, 0, 0).ins(api.Load, 2, 1, 0).ins(api.More, 2, 2, 1).ins(api.Store, 2, 1, 0).back()
}
