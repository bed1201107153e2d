package unload

import (
	"dowel/api"
	"math/rand"
	"slices"
	"strconv"
	"testing"
)

// twin is a system, and beside it the same in plain words: whatever is asked of one is asked of the other, and all that can be seen of them is held against each other.
type twin struct {
	*rig
	w     *world
	r     *rand.Rand
	count int // of names
}

func twinOf(t *testing.T, r *rand.Rand) *twin {
	size, most := 1024+4*r.Intn(400), 2+r.Intn(12)
	g := &twin{newRig(t, size, most), worldOf(size, most), r, 4 + r.Intn(8)}
	g.fill(16, size, byte(r.Intn(256)))
	for i := range g.count {
		if r.Intn(20) > 0 {
			g.putUnit(g.someUnit(i))
		}
	}
	return g
}

func (g *twin) putUnit(u *unit) {
	g.t.Helper()
	g.put(u.source())
	g.w.files[u.name] = u
}

func (g *twin) someName() string { return "M" + strconv.Itoa(g.r.Intn(g.count)) }

// someLoaded is mostly a name of a module that is there, if any is.
func (g *twin) someLoaded() string {
	if names := g.w.names(); len(names) > 0 && g.r.Intn(5) > 0 {
		return names[g.r.Intn(len(names))]
	}
	return g.someName()
}

// someUnit refers to itself and to its imports, mostly to such as its words may tell.
func (g *twin) someUnit(own int) *unit {
	r := g.r
	u := &unit{name: "M" + strconv.Itoa(own), words: 6 + r.Intn(4), text: r.Intn(12), exports: 8, ptrs: []int{0, 3}, procs: []int{1, 4}}
	u.key = keyOf(u.name)
	if r.Intn(8) == 0 {
		u.ptrs, u.procs = []int{1, 2}, []int{0, 5}
	}
	for range r.Intn(4) {
		other := own + 1 + r.Intn(4)
		if r.Intn(25) == 0 {
			other = r.Intn(g.count)
		}
		i := api.Import{Name: "M" + strconv.Itoa(other), Key: keyOf("M" + strconv.Itoa(other))}
		if other != own && other < g.count && !slices.Contains(u.imports, i) {
			u.imports = append(u.imports, i)
		}
	}
	if len(u.imports) > 0 && r.Intn(3) == 0 {
		u.extends = 1 + r.Intn(len(u.imports))
	}
	u.cmds = [2]script{g.someScript(u), g.someScript(u)}
	if r.Intn(4) > 0 {
		s := g.someScript(u)
		u.body = &s
	}
	g.someFault(u)
	return u
}

func (g *twin) someFault(u *unit) {
	switch g.r.Intn(30) {
	case 0:
		u.key++
	case 1:
		u.broken = true
	case 2:
		u.exports = 1 + g.r.Intn(7)
	case 3:
		u.pad = 60 + g.r.Intn(100)
	}
}

func (g *twin) someScript(u *unit) script {
	s := script{end: api.Done}
	if g.r.Intn(8) == 0 {
		s.end = []int{api.Trapped, api.Fuel}[g.r.Intn(2)]
	}
	for range g.r.Intn(5) {
		s.deeds = append(s.deeds, g.someDeed(u))
	}
	return s
}

// someDeed tells mostly what a word of that number may tell, if its module declares the words that most do.
func (g *twin) someDeed(u *unit) deed {
	r := g.r
	mods := 1 + len(u.imports)
	d := deed{to: r.Intn(mods), word: r.Intn(6), from: r.Intn(mods), what: []int{nothing, aPlace, aPlace, aPlace, aPlace, aCopy}[r.Intn(6)]}
	word := d.word
	if r.Intn(12) == 0 {
		word = r.Intn(6)
	}
	switch {
	case d.what == aCopy:
		// From a word of the same kind, or one of no kind.
		d.ent = []int{word, (word + 3) % 6, 2, 5}[r.Intn(4)]
	case word%3 == 1:
		d.ent, d.far = procExport, 4*r.Intn(3)
	case r.Intn(3) == 0:
		d.from, d.ent = ownText, r.Intn(u.text+1)
	default:
		d.ent = 1 + r.Intn(7)
		d.far = r.Intn(4)
	}
	if r.Intn(25) == 0 {
		d.far = r.Intn(300) - 150
	}
	return d
}

func (g *twin) load(name string, fuel int) error {
	g.t.Helper()
	before := g.state()
	o, err := g.s.Load(name, fuel)
	want, wantErr := g.w.load(name, fuel)
	if o != want || err != wantErr {
		g.t.Fatalf("Load(%q, %d) = %+v, %v, want %+v, %v", name, fuel, o, err, want, wantErr)
	}
	if after := g.state(); err != nil && (!alike(before.Holes, after.Holes) || !alike(before.Modules, after.Modules) || !alike(before.Zones, after.Zones)) {
		g.t.Fatalf("behind %v all is %+v, was %+v", err, after, before)
	}
	return err
}

func (g *twin) call(name, cmd string, fuel int) {
	g.t.Helper()
	o, err := g.s.Call(name, cmd, fuel)
	if want, wantErr := g.w.call(name, cmd, fuel); o != want || err != wantErr {
		g.t.Fatalf("Call(%q, %q, %d) = %+v, %v, want %+v, %v", name, cmd, fuel, o, err, want, wantErr)
	}
}

// freeBoth frees a module of both, and tells what it came to.
func (g *twin) freeBoth(name string) string {
	g.t.Helper()
	kind := "freed"
	switch imported, held := g.w.imported(name), g.w.held(name, false); {
	case imported && held:
		kind = "imported and held"
	case imported:
		kind = "imported"
	case held:
		kind = "held"
	case g.w.held(name, true):
		kind = "held by itself"
	}
	err, want := g.free(name), g.w.free(name)
	if err != want {
		g.t.Fatalf("Free(%q) = %v, want %v", name, err, want)
	}
	if err == nil || err == error(api.ErrBusy) {
		return kind
	}
	return err.Error()
}

// check holds all that can be seen of both against each other.
func (g *twin) check() {
	g.t.Helper()
	if got, want := g.s.Table().Names(), g.w.names(); !alike(got, want) || g.s.Table().Room() != g.w.most-len(want) {
		g.t.Fatalf("the modules are %q, want %q", got, want)
	}
	if got, want := g.s.Heap().Holes(), g.w.holes(); !alike(got, want) {
		g.t.Fatalf("the holes are %v, want %v", got, want)
	}
	if got, want := g.s.Zones().All(), g.w.zones(); !alike(got, want) {
		g.t.Fatalf("the zones are %+v, want %+v", got, want)
	}
	if got, want := Cells(g.s), g.w.cells(); !alike(got, want) {
		g.t.Fatalf("the cells are %v, want %v", got, want)
	}
	for _, m := range g.w.mods {
		if got, _ := g.s.Table().Find(m.u.name); !alike(got, m.told()) {
			g.t.Fatalf("the table tells %+v, want %+v", got, m.told())
		}
		for word, v := range m.data {
			g.words(m.base+4*word, int(v))
		}
		g.checkType(m)
	}
	for i := range g.count {
		s := "M" + strconv.Itoa(i)
		if got, want := Held(g.s, s), g.w.held(s, false); got != want {
			g.t.Fatalf("Held(%q) = %v, want %v", s, got, want)
		}
	}
	g.checkCells()
}

// checkType asks that a descriptor tells the types that its type extends, and that each of them is one of a module that is there.
func (g *twin) checkType(m *laid) {
	g.t.Helper()
	at, behind := m.place(typeExport), len(m.line)-1
	g.words(at, append(append([]int{8}, m.line[:behind]...), make([]int, 3-behind)...)...)
	for _, base := range m.line[:behind] {
		if !slices.ContainsFunc(g.w.mods, func(x *laid) bool { return x.place(typeExport) == base }) {
			g.t.Fatalf("the type at %d extends one at %d, which isn't there", at, base)
		}
	}
}

// T2 and P21.3: any files, loads, calls and frees, with errors among them. Behind each step all is as the plain words have it, and each declared cell is 0 or tells a place of a module that is there, of its kind.
func TestT2AnySteps(t *testing.T) {
	r := rand.New(rand.NewSource(21))
	frees, loads, extend := map[string]int{}, map[error]int{}, 0
	for range 500 {
		g := twinOf(t, r)
		for range 60 {
			name := g.someName()
			switch n := r.Intn(20); {
			case n < 2:
				own, _ := strconv.Atoi(name[1:])
				g.putUnit(g.someUnit(own))
			case n == 2 && r.Intn(6) == 0 && g.w.files[name] != nil:
				if err := g.s.Files().Delete(name); err != nil {
					t.Fatal(err)
				}
				delete(g.w.files, name)
			case n < 9:
				loads[g.load(name, []int{-1, 0, 4, 12, enough}[min(r.Intn(16), 4)])]++
			case n < 14:
				g.call(g.someLoaded(), []string{"Run", "Go", "Run", "Go", "None"}[r.Intn(5)], []int{0, 4, 9, enough, enough}[r.Intn(5)])
			case n == 14 && r.Intn(4) == 0:
				frees[g.freeBoth([]string{"", "1", "M-", "M0123456789abcdef"}[r.Intn(4)])]++
			default:
				frees[g.freeBoth(g.someLoaded())]++
			}
			g.check()
			if slices.ContainsFunc(g.w.mods, func(m *laid) bool { return len(m.line) > 2 }) {
				extend++
			}
		}
	}
	if extend < 200 {
		t.Errorf("behind %d steps alone a type extended two others", extend)
	}
	for _, s := range []string{"freed", "held by itself", "imported", "held", "imported and held", api.ErrName.Error(), api.ErrNone.Error()} {
		if frees[s] < 50 {
			t.Errorf("%q came %d times: %v", s, frees[s], frees)
		}
	}
	for _, err := range []error{nil, api.ErrNone, api.ErrForm, api.ErrKey, api.ErrCycle, api.ErrTable, api.ErrMemory, api.ErrTrap, api.ErrFuel} {
		if loads[err] < 50 {
			t.Errorf("%v was told %d times: %v", err, loads[err], loads)
		}
	}
}

// T6 and P21.3: any names loaded, then freed in reverse order: if nothing is held, all is as it was; what is held, or imported by what stays, stays.
func TestT6AnyModules(t *testing.T) {
	r := rand.New(rand.NewSource(216))
	clean, kept := 0, 0
	for range 600 {
		g := twinOf(t, r)
		for range 4 {
			before := g.state()
			for range 4 {
				g.load(g.someName(), enough)
				g.call(g.someLoaded(), "Run", enough)
			}
			g.check()
			for _, s := range reversed(g.s.Table().Names()[len(before.Names):]) {
				g.freeBoth(s)
				g.check()
			}
			after := g.state()
			if len(after.Names) > len(before.Names) {
				kept++
				continue
			}
			clean++
			if !alike(before.Holes, after.Holes) || !alike(before.Modules, after.Modules) || !alike(before.Zones, after.Zones) {
				t.Fatalf("all is %+v, was %+v", after, before)
			}
		}
	}
	if clean < 500 || kept < 50 {
		t.Errorf("%d times all was as it was, %d times something stayed", clean, kept)
	}
}
