package symbol

import (
	"dowel/api"
	"dowel/load"
	"dowel/unload"
	"math/rand"
	"slices"
	"strconv"
	"testing"
)

// clock is a module that counts bodies.
func clock() *source { return unit("K").data(1).export(api.Var, 0) }

// By number, the data words of a module whose body counts.
const (
	itsTurn  = 0 // how many bodies had been run
	itsTurns = 1 // how often its own was
	itsFirst = 2 // where its first import's data are
)

// counting is a module whose body counts itself; it imports the clock, and others behind it.
func counting(name string, imports ...string) *source {
	x := unit(name, append([]string{"K"}, imports...)...).data(3).ptrs(itsFirst).export(api.Var, 0).body()
	x.ref(addresses, 1, 1, 0).ref(addresses, 2, 0, 0)
	x.ins(api.Load, 3, 1, 0).ins(api.Store, 3, 2, 4*itsTurn).ins(api.More, 3, 3, 1).ins(api.Store, 3, 1, 0)
	x.ins(api.Load, 3, 2, 4*itsTurns).ins(api.More, 3, 3, 1).ins(api.Store, 3, 2, 4*itsTurns)
	if len(imports) > 0 {
		x.ref(addresses, 4, 2, 0).ins(api.Store, 4, 2, 4*itsFirst)
	}
	return x.back()
}

// follow adds to a world what a system has loaded, in its order, and calls each body once.
func (g *rig) follow(m *machine, files map[string]*source) map[string]int {
	g.t.Helper()
	numbers := map[string]int{}
	for _, s := range m.s.Table().Names() {
		x := files[s]
		var imports []int
		for _, i := range x.o.Imports {
			imports = append(imports, numbers[i.Name])
		}
		numbers[s] = g.add(x, imports...)
		if x.o.Body > 0 {
			if o := g.call(numbers[s], x.o.Body-1, enough); o.End != api.Done {
				g.t.Fatalf("the body of %q comes to %+v", s, o)
			}
		}
		m.enter(g.t, x)
	}
	m.check(g.t, 0, g.w)
	return numbers
}

// T5, T6, P22.4: what is loaded with its imports tells the same as a world whose modules' bodies were called once, in that order; freed from the last one on, the modules, and the holes, are as they were.
func TestT5T6Bodies(t *testing.T) {
	r := rand.New(rand.NewSource(225))
	for range 200 {
		files := map[string]*source{"K": clock().whole()}
		count := 1 + r.Intn(8)
		for i := range count {
			var imports []string
			for other := i + 1; other < count; other++ {
				if r.Intn(2) == 0 {
					imports = append(imports, "M"+strconv.Itoa(other))
				}
			}
			files["M"+strconv.Itoa(i)] = counting("M"+strconv.Itoa(i), imports...)
		}
		s, err := load.New(load.Config{Size: 16384, Modules: 16})
		if err != nil {
			t.Fatal(err)
		}
		for name, x := range files {
			if err := s.Files().Put(name, x.file(t, true)); err != nil {
				t.Fatal(err)
			}
		}
		before := s.Heap().Holes()
		for range 2 {
			for _, i := range r.Perm(count)[:1+r.Intn(count)] {
				if _, err := s.Load("M"+strconv.Itoa(i), enough); err != nil {
					t.Fatal(err)
				}
			}
		}
		g := newRig(t, nil)
		numbers := g.follow(&machine{s: s}, files)
		names := s.Table().Names()
		turn := 0
		for _, name := range names {
			if files[name].o.Body == 0 {
				continue
			}
			if l := g.w.Data(numbers[name]); l[itsTurn] != anumber(turn) || l[itsTurns] != anumber(1) {
				t.Errorf("%q tells %v, its turn is %d", name, l, turn)
			}
			for _, i := range files[name].o.Imports {
				if files[i.Name].o.Body > 0 && g.w.Data(numbers[i.Name])[itsTurn].N >= turn {
					t.Errorf("%q was run ahead of %q", name, i.Name)
				}
			}
			turn++
		}
		for _, name := range slices.Backward(names) {
			if err := unload.Free(s, name); err != nil {
				t.Fatalf("Free(%q): %v", name, err)
			}
		}
		if holes := s.Heap().Holes(); len(s.Table().Names()) != 0 || !slices.Equal(holes, before) {
			t.Errorf("there are %q, and the holes are %v", s.Table().Names(), holes)
		}
	}
}
