package unload

import (
	"dowel/api"
	"dowel/heap"
	"dowel/load"
	"dowel/table"
	"dowel/zone"
	"reflect"
	"slices"
	"testing"
)

// enough is fuel that all code here is done with, if it ever is.
const enough = 1000

// rig is a system; each question that is put to it is held to change nothing, and each Free to change just what it is to.
type rig struct {
	t testing.TB
	s *load.System
}

// newRig is one of so many bytes, with room for so many modules.
func newRig(t testing.TB, size, most int, files ...*source) *rig {
	t.Helper()
	s, err := load.New(load.Config{Size: size, Modules: most})
	if err != nil {
		t.Fatalf("New of %d bytes: %v", size, err)
	}
	g := &rig{t, s}
	return g.put(files...)
}

// put puts files of their modules' names.
func (g *rig) put(files ...*source) *rig {
	g.t.Helper()
	for _, x := range files {
		if err := g.s.Files().Put(x.o.Name, x.file(g.t)); err != nil {
			g.t.Fatalf("Put of %q: %v", x.o.Name, err)
		}
	}
	return g
}

// loads loads modules, which is to come to no error.
func (g *rig) loads(names ...string) *rig {
	g.t.Helper()
	for _, s := range names {
		if o, err := g.s.Load(s, enough); err != nil || o != (api.Outcome{}) {
			g.t.Fatalf("Load(%q) = %+v, %v", s, o, err)
		}
	}
	return g
}

// calls calls commands of a module, which are to be done.
func (g *rig) calls(name string, cmds ...string) *rig {
	g.t.Helper()
	for _, cmd := range cmds {
		if o, err := g.s.Call(name, cmd, enough); err != nil || o.End != api.Done {
			g.t.Fatalf("Call(%q, %q) = %+v, %v", name, cmd, o, err)
		}
	}
	return g
}

// state is all of a system that can be seen, but for its files.
type state struct {
	Names   []string
	Room    int
	Modules []table.Module
	Holes   []heap.Hole
	Zones   []zone.Zone
	Bytes   []byte
}

func (g *rig) state() state {
	x := state{Names: g.s.Table().Names(), Room: g.s.Table().Room(), Holes: g.s.Heap().Holes(), Zones: g.s.Zones().All(), Bytes: g.s.Mem().Bytes(0, g.s.Mem().Size())}
	for _, s := range x.Names {
		m, _ := g.s.Table().Find(s)
		x.Modules = append(x.Modules, m)
	}
	return x
}

// without is the same, but for one module, which is gone: its block, its zone, its place in the table.
func (x state) without(m table.Module) state {
	x.Names = slices.DeleteFunc(slices.Clone(x.Names), func(s string) bool { return s == m.Name })
	x.Modules = slices.DeleteFunc(slices.Clone(x.Modules), func(o table.Module) bool { return o.Name == m.Name })
	x.Zones = slices.DeleteFunc(slices.Clone(x.Zones), func(z zone.Zone) bool { return z.Base == m.Base })
	x.Room++
	x.Holes = joined(append(slices.Clone(x.Holes), heap.Hole{At: m.Base, Size: m.Size}))
	return x
}

// joined are holes that rise, none of which touches another one.
func joined(l []heap.Hole) []heap.Hole {
	slices.SortFunc(l, func(a, b heap.Hole) int { return a.At - b.At })
	var out []heap.Hole
	for _, x := range l {
		if last := len(out) - 1; last >= 0 && out[last].At+out[last].Size == x.At {
			out[last].Size += x.Size
			continue
		}
		out = append(out, x)
	}
	return out
}

// free frees a module, and tells the error. With one nothing is to be changed, and without one just that module is to be gone.
func (g *rig) free(name string) error {
	g.t.Helper()
	before := g.state()
	m, there := g.s.Table().Find(name)
	files := g.files()
	err := Free(g.s, name)
	want := before
	switch {
	case err == nil && !there:
		g.t.Fatalf("Free(%q) = nil, and it wasn't there", name)
	case err == nil:
		want = before.without(m)
	case err != error(api.ErrName) && err != error(api.ErrNone) && err != error(api.ErrBusy):
		g.t.Fatalf("Free(%q) = %v", name, err)
	}
	if after := g.state(); !alike(after, want) {
		g.t.Fatalf("behind Free(%q) = %v all is %+v, want %+v", name, err, after, want)
	}
	if !alike(files, g.files()) {
		g.t.Fatalf("Free(%q) changed files", name)
	}
	return err
}

// files are their names and their bytes.
func (g *rig) files() [][]byte {
	var l [][]byte
	for _, s := range g.s.Files().Names() {
		b, _ := g.s.Files().Get(s)
		l = append(l, []byte(s), b)
	}
	return l
}

// frees frees modules, which is to come to no error.
func (g *rig) frees(names ...string) *rig {
	g.t.Helper()
	for _, s := range names {
		if err := g.free(s); err != nil {
			g.t.Fatalf("Free(%q) = %v", s, err)
		}
		if _, there := g.s.Table().Find(s); there {
			g.t.Fatalf("behind Free(%q) it is there", s)
		}
	}
	return g
}

// fails frees modules, each of which is to come to that error itself, and again to the same.
func (g *rig) fails(want error, names ...string) *rig {
	g.t.Helper()
	for _, s := range names {
		for range 2 {
			if err := g.free(s); err == nil || err != want {
				g.t.Fatalf("Free(%q) = %v, want %v", s, err, want)
			}
		}
	}
	return g
}

// held tells whether a module is held; asked twice, it is to tell the same, and to change nothing.
func (g *rig) held(name string) bool {
	g.t.Helper()
	before := g.state()
	held := Held(g.s, name)
	if again := Held(g.s, name); again != held {
		g.t.Fatalf("Held(%q) = %v, and then %v", name, held, again)
	}
	if after := g.state(); !alike(before, after) {
		g.t.Fatalf("behind Held(%q) all is %+v, was %+v", name, after, before)
	}
	return held
}

// holds asks whether modules are held.
func (g *rig) holds(want bool, names ...string) *rig {
	g.t.Helper()
	for _, s := range names {
		if held := g.held(s); held != want {
			g.t.Fatalf("Held(%q) = %v, want %v", s, held, want)
		}
	}
	return g
}

// cells are all declared cells; asked twice, they are to be the same, and nothing changed.
func (g *rig) cells() []Cell {
	g.t.Helper()
	before := g.state()
	l := Cells(g.s)
	if again := Cells(g.s); !slices.Equal(l, again) {
		g.t.Fatalf("Cells are %v, and then %v", l, again)
	}
	if after := g.state(); !alike(before, after) {
		g.t.Fatalf("behind Cells all is %+v, was %+v", after, before)
	}
	return l
}

// has asks for all declared cells.
func (g *rig) has(want ...Cell) *rig {
	g.t.Helper()
	if l := g.cells(); !slices.Equal(l, want) {
		g.t.Fatalf("Cells are %v, want %v", l, want)
	}
	return g
}

// base is where a loaded module's block lies.
func (g *rig) base(name string) int {
	g.t.Helper()
	m, ok := g.s.Table().Find(name)
	if !ok {
		g.t.Fatalf("%q isn't there", name)
	}
	return m.Base
}

// lies asks where modules lie: on from the stack, one behind the other.
func (g *rig) lies(names ...string) *rig {
	g.t.Helper()
	at := 272
	for _, s := range names {
		m, _ := g.s.Table().Find(s)
		if m.Base != at {
			g.t.Fatalf("%q lies at %d, want %d", s, m.Base, at)
		}
		at += m.Size
	}
	return g
}

// poke sets a word from outside, so that a cell can have any value.
func (g *rig) poke(at, w int) *rig {
	g.t.Helper()
	if trap := g.s.Mem().SetWord(at, uint32(w)); trap != 0 {
		g.t.Fatalf("SetWord(%d): trap %d", at, trap)
	}
	return g
}

func (g *rig) word(at int) int {
	g.t.Helper()
	w, trap := g.s.Mem().Word(at)
	if trap != 0 {
		g.t.Fatalf("Word(%d): trap %d", at, trap)
	}
	return int(w)
}

// words asks for words from a place on.
func (g *rig) words(at int, want ...int) *rig {
	g.t.Helper()
	for i, w := range want {
		if got := g.word(at + 4*i); got != w {
			g.t.Fatalf("the word at %d is %d, want %d", at+4*i, got, w)
		}
	}
	return g
}

// fill has bytes of the memory be others.
func (g *rig) fill(from, to int, b byte) *rig {
	for at := from; at < to; at++ {
		g.s.Mem().SetByte(at, b)
	}
	return g
}

// checkCells asks that each declared cell is 0, or tells a place of a module that is there, of its kind.
func (g *rig) checkCells() *rig {
	g.t.Helper()
	for _, c := range g.cells() {
		if !g.isPlace(c) {
			g.t.Fatalf("the cell at %d of kind %d tells %d; the zones are %+v", c.At, c.Kind, c.Value, g.s.Zones().All())
		}
	}
	return g
}

func (g *rig) isPlace(c Cell) bool {
	for _, s := range g.s.Table().Names() {
		m, _ := g.s.Table().Find(s)
		z := m.Zone
		if c.Kind == 1 && c.Value >= z.Base && c.Value < z.Read || c.Kind == 2 && c.Value >= z.Read && c.Value < z.End && c.Value%4 == 0 {
			return true
		}
	}
	return c.Value == 0
}

// alike tells whether two values are the same; a list that is nil, and one that is empty, are.
func alike(a, b any) bool { return alikeValues(reflect.ValueOf(a), reflect.ValueOf(b)) }

func alikeValues(a, b reflect.Value) bool {
	switch a.Kind() {
	case reflect.Slice:
		if a.Len() != b.Len() {
			return false
		}
		if a.Type().Elem().Kind() == reflect.Uint8 {
			return string(a.Bytes()) == string(b.Bytes())
		}
		for i := range a.Len() {
			if !alikeValues(a.Index(i), b.Index(i)) {
				return false
			}
		}
		return true
	case reflect.Struct:
		for i := range a.NumField() {
			if !alikeValues(a.Field(i), b.Field(i)) {
				return false
			}
		}
		return true
	}
	return a.Interface() == b.Interface()
}
