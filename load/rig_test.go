package load

import (
	"bytes"
	"dowel/api"
	"dowel/heap"
	"dowel/table"
	"dowel/zone"
	"reflect"
	"slices"
	"testing"
)

// enough is fuel that all code here is done with, if it ever is.
const enough = 1000

// rig is a system, and beside it the chapter's words: whatever is asked of one is asked of the other, and all that can be seen of them is held against each other.
type rig struct {
	t testing.TB
	s *System
	p *plain
}

// newRig is one of so many bytes, with room for so many modules.
func newRig(t testing.TB, size, most int, files ...*source) *rig {
	t.Helper()
	s, err := New(Config{Size: size, Modules: most})
	if err != nil {
		t.Fatalf("New of %d bytes: %v", size, err)
	}
	g := &rig{t, s, plainOf(size, most)}
	g.put(files...)
	return g
}

// put puts files of their modules' names.
func (g *rig) put(files ...*source) {
	g.t.Helper()
	for _, x := range files {
		g.putAs(x.o.Name, x)
	}
}

func (g *rig) putAs(name string, x *source) {
	g.t.Helper()
	if err := g.s.Files().Put(name, x.file(g.t)); err != nil {
		g.t.Fatalf("Put of %q: %v", name, err)
	}
	g.p.files[name] = x
}

func (g *rig) delete(name string) {
	g.t.Helper()
	if err := g.s.Files().Delete(name); err != nil {
		g.t.Fatalf("Delete of %q: %v", name, err)
	}
	delete(g.p.files, name)
}

// fill has bytes of the memory, in both, be others than 0.
func (g *rig) fill(from, to int, b byte) {
	for at := from; at < to; at++ {
		g.s.Mem().SetByte(at, b)
		g.p.m.SetByte(at, b)
	}
}

// poke sets a word in both.
func (g *rig) poke(at, w int) {
	g.s.Mem().SetWord(at, uint32(w))
	g.p.m.SetWord(at, uint32(w))
}

// occupy takes a block of both heaps, which no module has.
func (g *rig) occupy(size int) int {
	g.t.Helper()
	at, err := g.s.Heap().Take(size)
	if want := g.p.take(size); err != nil || at != want {
		g.t.Fatalf("Take(%d) = %d, %v, want %d", size, at, err, want)
	}
	return at
}

// vacate gives a block back.
func (g *rig) vacate(at, size int) {
	g.t.Helper()
	if err := g.s.Heap().Give(at, size); err != nil {
		g.t.Fatalf("Give(%d, %d): %v", at, size, err)
	}
	g.p.mark(at, size, false)
}

// load loads a module, and tells what it came to.
func (g *rig) load(name string, fuel int) (api.Outcome, error) {
	g.t.Helper()
	outcome, err := g.s.Load(name, fuel)
	want, wantErr := g.p.load(name, fuel)
	if outcome != want || !sameError(err, wantErr) {
		g.t.Fatalf("Load(%q, %d) = %+v, %v, want %+v, %v", name, fuel, outcome, err, want, wantErr)
	}
	g.check()
	return outcome, err
}

// sameError tells whether an error is just that one, not one that is or wraps something else.
func sameError(err, want error) bool {
	if err == nil || want == nil {
		return err == nil && want == nil
	}
	return err == want
}

// loads loads modules, which is to come to no error.
func (g *rig) loads(names ...string) *rig {
	g.t.Helper()
	for _, s := range names {
		if outcome, err := g.load(s, enough); err != nil || outcome != (api.Outcome{}) {
			g.t.Fatalf("Load(%q) = %+v, %v", s, outcome, err)
		}
		if _, ok := g.s.Table().Find(s); !ok {
			g.t.Fatalf("%q isn't there behind its load", s)
		}
	}
	return g
}

// fails loads a module, which is to come to that error, with a zero outcome.
func (g *rig) fails(name string, want error) *rig {
	g.t.Helper()
	return g.ends(name, enough, want, api.Outcome{})
}

// ends loads a module, which is to come to that error and that outcome, and then to leave all modules, holes and zones as they were; and again to the same.
func (g *rig) ends(name string, fuel int, want error, outcome api.Outcome) *rig {
	g.t.Helper()
	before := g.state()
	for range 2 {
		if o, err := g.load(name, fuel); o != outcome || !sameError(err, want) {
			g.t.Fatalf("Load(%q, %d) = %+v, %v, want %+v, %v", name, fuel, o, err, outcome, want)
		}
		if after := g.state(); !alike(before, after) {
			g.t.Fatalf("behind %v all is %+v, was %+v", want, after, before)
		}
	}
	return g
}

// call calls a command, and tells what it came to.
func (g *rig) call(name, cmd string, fuel int) (api.Outcome, error) {
	g.t.Helper()
	outcome, err := g.s.Call(name, cmd, fuel)
	want, wantErr := g.p.call(name, cmd, fuel)
	if outcome != want || !sameError(err, wantErr) {
		g.t.Fatalf("Call(%q, %q, %d) = %+v, %v, want %+v, %v", name, cmd, fuel, outcome, err, want, wantErr)
	}
	g.check()
	return outcome, err
}

// calls calls a command, which is to come to that, without an error.
func (g *rig) calls(name, cmd string, fuel int, want api.Outcome) *rig {
	g.t.Helper()
	if outcome, err := g.call(name, cmd, fuel); err != nil || outcome != want {
		g.t.Fatalf("Call(%q, %q, %d) = %+v, %v, want %+v", name, cmd, fuel, outcome, err, want)
	}
	return g
}

// remove removes a module, and tells whether it is gone.
func (g *rig) remove(name string) bool {
	g.t.Helper()
	gone, want := g.s.Remove(name), g.p.remove(name)
	if gone != want {
		g.t.Fatalf("Remove(%q) = %v, want %v", name, gone, want)
	}
	g.check()
	return gone
}

// removes removes modules, which is to be so.
func (g *rig) removes(names ...string) *rig {
	g.t.Helper()
	for _, s := range names {
		if !g.remove(s) {
			g.t.Fatalf("Remove(%q) = false", s)
		}
	}
	return g
}

// state is all that an error leaves as it was.
type state struct {
	Names   []string
	Modules []table.Module
	Holes   []heap.Hole
	Zones   []zone.Zone
}

func (g *rig) state() state {
	x := state{Names: g.s.Table().Names(), Holes: g.s.Heap().Holes(), Zones: g.s.Zones().All()}
	for _, s := range x.Names {
		m, _ := g.s.Table().Find(s)
		x.Modules = append(x.Modules, m)
	}
	return x
}

// check holds all that can be seen of the system against the plain one.
func (g *rig) check() {
	g.t.Helper()
	if got, want := g.s.Mem().Bytes(0, g.s.Mem().Size()), g.p.bytes(); !bytes.Equal(got, want) {
		for at := range got {
			if got[at] != want[at] {
				g.t.Fatalf("the byte at %d is %d, want %d", at, got[at], want[at])
			}
		}
		g.t.Fatal("the memory has another size")
	}
	if got, want := g.s.Heap().Holes(), g.p.holes(); !slices.Equal(got, want) {
		g.t.Fatalf("the holes are %v, want %v", got, want)
	}
	if got, want := g.s.Table().Names(), g.p.names(); !slices.Equal(got, want) {
		g.t.Fatalf("the modules are %q, want %q", got, want)
	}
	if got, want := g.s.Table().Room(), g.p.most-len(g.p.mods); got != want {
		g.t.Fatalf("there is room for %d, want %d", got, want)
	}
	g.checkZones()
	for _, m := range g.p.mods {
		got, ok := g.s.Table().Find(m.x.o.Name)
		if want := m.told(); !ok || !alike(got, want) {
			g.t.Fatalf("the table tells %+v, %v, want %+v", got, ok, want)
		}
	}
}

func (g *rig) checkZones() {
	g.t.Helper()
	if got, want := g.s.Zones().All(), g.p.zones(); !alike(got, want) {
		g.t.Fatalf("the zones are %+v, want %+v", got, want)
	}
}

// checkCells asks that each declared cell may have its value.
func (g *rig) checkCells() {
	g.t.Helper()
	if l := g.p.stale(); len(l) > 0 {
		g.t.Fatalf("the cells at %v may not have their values", l)
	}
	for _, z := range g.s.Zones().All() {
		for i, c := range slices.Concat(z.Ptrs, z.Procs) {
			kind := 1
			if i >= len(z.Ptrs) {
				kind = 2
			}
			if w, trap := g.s.Mem().Word(c); trap != 0 || !g.s.Zones().Fits(kind, int(w)) {
				g.t.Fatalf("the cell at %d may not have the value %d", c, w)
			}
		}
	}
}

// base is where a loaded module's block lies.
func (g *rig) base(name string) int {
	g.t.Helper()
	m, ok := g.s.Table().Find(name)
	if !ok {
		g.t.Fatalf("%q isn't there", name)
	}
	return m.Base
}

func (g *rig) word(at int) int {
	g.t.Helper()
	w, trap := g.s.Mem().Word(at)
	if trap != 0 {
		g.t.Fatalf("Word(%d): trap %d", at, trap)
	}
	return int(w)
}

// words asks for words from a place on.
func (g *rig) words(at int, want ...int) *rig {
	g.t.Helper()
	for i, w := range want {
		if got := g.word(at + 4*i); got != w {
			g.t.Fatalf("the word at %d is %d, want %d", at+4*i, got, w)
		}
	}
	return g
}

// alike tells whether two values are the same; a list that is nil, and one that is empty, are.
func alike(a, b any) bool { return alikeValues(reflect.ValueOf(a), reflect.ValueOf(b)) }

func alikeValues(a, b reflect.Value) bool {
	switch a.Kind() {
	case reflect.Slice:
		if a.Len() != b.Len() {
			return false
		}
		for i := range a.Len() {
			if !alikeValues(a.Index(i), b.Index(i)) {
				return false
			}
		}
		return true
	case reflect.Struct:
		for i := range a.NumField() {
			if !alikeValues(a.Field(i), b.Field(i)) {
				return false
			}
		}
		return true
	}
	return a.Interface() == b.Interface()
}
