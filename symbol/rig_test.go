package symbol

import (
	"bytes"
	"dowel/api"
	"dowel/load"
	"dowel/run"
	"reflect"
	"slices"
	"testing"
)

// enough is fuel that all code here is done with, if it ever is.
const enough = 1000

// rig is a world, and beside it the chapter's words, and machines that have the same modules at other places: whatever is asked of one is asked of the others, and all that can be seen of them is held against each other.
type rig struct {
	t        testing.TB
	w        *World
	p        *plain
	machines []*machine
	mixed    int // how often TrapMix was told
	told     map[api.Outcome]int
}

// machine is a system that has the world's modules, with blocks of any length ahead of them.
type machine struct {
	s     *load.System
	ahead []int // how many bytes there are ahead of each module's block; of those beyond the list none
	mods  []*source
	bases []int
}

// newRig has a machine for each list of blocks' lengths.
func newRig(t testing.TB, ahead ...[]int) *rig {
	t.Helper()
	g := &rig{t: t, w: New(), p: plainOf(), told: map[api.Outcome]int{}}
	for _, l := range ahead {
		s, err := load.New(load.Config{Size: api.MaxSize, Modules: api.MaxModules})
		if err != nil {
			t.Fatal(err)
		}
		g.machines = append(g.machines, &machine{s: s, ahead: l})
	}
	return g
}

// twoWays are machines where modules lie one behind the other, and apart.
func twoWays() [][]int { return [][]int{nil, {40, 4, 1000, 8}} }

// tryAdd adds a module, or tells the error.
func (g *rig) tryAdd(x *source, imports ...int) (int, error) {
	g.t.Helper()
	x.whole()
	before := g.w.state()
	o, handed := x.object(), slices.Clone(imports)
	n, err := g.w.Add(o, handed)
	want, wantErr := g.p.add(x, imports)
	if n != want || !sameError(err, wantErr) {
		g.t.Fatalf("Add(%q, %v) = %d, %v, want %d, %v", x.o.Name, imports, n, err, want, wantErr)
	}
	if !slices.Equal(handed, imports) || !reflect.DeepEqual(o, x.object()) {
		g.t.Fatalf("Add(%q, %v) changed what was handed in", x.o.Name, imports)
	}
	if err != nil {
		if after := g.w.state(); !alike(before, after) {
			g.t.Fatalf("behind %v the world is %+v, was %+v", err, after, before)
		}
		return n, err
	}
	for _, m := range g.machines {
		m.load(g.t, x)
	}
	g.check()
	return n, nil
}

// sameError tells whether an error is just that one, not one that is or wraps something else.
func sameError(err, want error) bool {
	if err == nil || want == nil {
		return err == nil && want == nil
	}
	return err == want
}

// add adds a module, which is to come to no error.
func (g *rig) add(x *source, imports ...int) int {
	g.t.Helper()
	n, err := g.tryAdd(x, imports...)
	if err != nil {
		g.t.Fatalf("Add(%q, %v) = %d, %v", x.o.Name, imports, n, err)
	}
	return n
}

// adds adds modules that import nothing, or just all that are there, in order.
func (g *rig) adds(l ...*source) *rig {
	g.t.Helper()
	for _, x := range l {
		var imports []int
		for i := range x.o.Imports {
			imports = append(imports, 1+i)
		}
		g.add(x, imports...)
	}
	return g
}

// fails adds a module, which is to come to that error, and again to the same.
func (g *rig) fails(want error, x *source, imports ...int) *rig {
	g.t.Helper()
	for range 2 {
		if n, err := g.tryAdd(x, imports...); n != 0 || err == nil || err != want {
			g.t.Fatalf("Add(%q, %v) = %d, %v, want %v", x.o.Name, imports, n, err, want)
		}
	}
	return g
}

// call calls a place, and tells what it came to.
func (g *rig) call(mod, at, fuel int) api.Outcome {
	g.t.Helper()
	o := g.w.Call(mod, at, fuel)
	if want := g.p.call(mod, at, fuel); o != want {
		g.t.Fatalf("Call(%d, %d, %d) = %+v, want %+v", mod, at, fuel, o, want)
	}
	if mod >= 1 && mod <= len(g.p.mods) && at >= 0 && at < g.p.mods[mod-1].x.here() {
		for i, m := range g.machines {
			m.same(g.t, i, mod, at, fuel, o)
		}
	}
	if o.Trap == api.TrapMix {
		g.mixed++
	}
	g.told[api.Outcome{End: o.End, Trap: o.Trap}]++
	g.check()
	return o
}

// is calls a place, which is to come to that.
func (g *rig) is(mod, at, fuel int, want api.Outcome) *rig {
	g.t.Helper()
	if o := g.call(mod, at, fuel); o != want {
		g.t.Fatalf("Call(%d, %d, %d) = %+v, want %+v", mod, at, fuel, o, want)
	}
	return g
}

func done(steps int) api.Outcome { return api.Outcome{End: api.Done, Steps: steps} }

func trapped(trap, steps int) api.Outcome {
	return api.Outcome{End: api.Trapped, Trap: trap, Steps: steps}
}

func spent(steps int) api.Outcome { return api.Outcome{End: api.Fuel, Steps: steps} }

// has asks for a module's data.
func (g *rig) has(mod int, want ...Value) *rig {
	g.t.Helper()
	if l := g.w.Data(mod); !slices.Equal(l, want) {
		g.t.Fatalf("Data(%d) are %v, want %v", mod, l, want)
	}
	return g
}

// numbers are values.
func numbers(l ...int) []Value {
	var out []Value
	for _, n := range l {
		out = append(out, Value{N: n})
	}
	return out
}

// check holds all modules' data, and the stack, against those of the others.
func (g *rig) check() {
	g.t.Helper()
	for i := range g.p.mods {
		l, again := g.w.Data(1+i), g.w.Data(1+i)
		if want := g.p.data(1 + i); !slices.Equal(l, want) || !slices.Equal(again, want) {
			g.t.Fatalf("Data(%d) are %v, and then %v, want %v", 1+i, l, again, want)
		}
	}
	for i, v := range g.w.stack {
		if want := g.p.stack[16+4*i]; v != want {
			g.t.Fatalf("in the stack at %d is %v, want %v", 16+4*i, v, want)
		}
	}
	for i, m := range g.machines {
		m.check(g.t, i, g.w)
	}
}

// load loads a module.
func (m *machine) load(t testing.TB, x *source) {
	t.Helper()
	if len(m.mods) < len(m.ahead) && m.ahead[len(m.mods)] > 0 {
		if _, err := m.s.Heap().Take(m.ahead[len(m.mods)]); err != nil {
			t.Fatal(err)
		}
	}
	if err := m.s.Files().Put(x.o.Name, x.file(t, false)); err != nil {
		t.Fatalf("Put of %q: %v", x.o.Name, err)
	}
	if _, err := m.s.Load(x.o.Name, 0); err != nil {
		t.Fatalf("Load(%q): %v", x.o.Name, err)
	}
	m.enter(t, x)
}

// enter has a module that is loaded be known.
func (m *machine) enter(t testing.TB, x *source) {
	t.Helper()
	found, ok := m.s.Table().Find(x.o.Name)
	if !ok || found.Size != x.size() {
		t.Fatalf("of %q the table tells %+v, %v", x.o.Name, found, ok)
	}
	m.mods, m.bases = append(m.mods, x), append(m.bases, found.Base)
}

// same asks that a call comes to the same here. Where TrapMix was told, so many steps are done here, too, and no more are asked for.
func (m *machine) same(t testing.TB, number, mod, at, fuel int, o api.Outcome) {
	t.Helper()
	want := o
	if o.Trap == api.TrapMix {
		fuel, want = o.Steps, spent(o.Steps)
	}
	x := m.mods[mod-1]
	if got := run.Call(m.s.Mem(), m.s.Zones(), m.bases[mod-1]+x.code()+4*at, fuel); got != want {
		t.Fatalf("on machine %d a call of %d, %d with fuel %d comes to %+v, want %+v", number, mod, at, fuel, got, want)
	}
}

// check holds the memory against all that the world has: data, types, texts, the stack.
func (m *machine) check(t testing.TB, number int, w *World) {
	t.Helper()
	for i, v := range w.stack {
		m.word(t, number, 16+4*i, w, v)
	}
	for i, x := range m.mods {
		for k, v := range w.modules[i].words {
			m.word(t, number, m.bases[i]+4*k, w, v)
		}
		for k, v := range w.Data(1 + i) {
			m.word(t, number, m.bases[i]+4*k, w, v)
		}
		if text := m.s.Mem().Bytes(m.bases[i]+x.code()-(len(x.o.Text)+3)/4*4, m.bases[i]+x.code()); !bytes.HasPrefix(text, []byte(x.o.Text)) {
			t.Fatalf("on machine %d the text of %d is %q", number, 1+i, text)
		}
	}
}

func (m *machine) word(t testing.TB, number, at int, w *World, v Value) {
	t.Helper()
	want, trap := m.s.Mem().Word(at)
	if n, ok := w.Where(v, m.bases); trap != 0 || !ok || uint32(n) != want {
		t.Fatalf("on machine %d the word at %d is %d, and the value %v tells %d, %v", number, at, want, v, n, ok)
	}
}

// worldState is all that a world has.
type worldState struct {
	Modules []moduleState
	Types   []Value
	Stack   []Value
}

type moduleState struct {
	Key     uint32
	Words   []Value
	Code    []uint32
	Refs    map[int]Value
	Cells   map[int]int
	Exports []export
}

// state is a copy of all that a world has.
func (w *World) state() worldState {
	x := worldState{Types: slices.Clone(w.types), Stack: slices.Clone(w.stack[:])}
	for _, m := range w.modules {
		s := moduleState{Key: m.key, Words: slices.Clone(m.words), Code: slices.Clone(m.code), Refs: map[int]Value{}, Cells: map[int]int{}}
		for n, v := range m.refs {
			s.Refs[n] = v
		}
		for n, kind := range m.cells {
			s.Cells[n] = kind
		}
		for _, e := range m.exports {
			e.line = slices.Clone(e.line)
			s.Exports = append(s.Exports, e)
		}
		x.Modules = append(x.Modules, s)
	}
	return x
}

// alike tells whether two states are the same.
func alike(a, b worldState) bool { return reflect.DeepEqual(a, b) }
