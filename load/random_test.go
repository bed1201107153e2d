package load

import (
	"dowel/api"
	"math/rand"
	"strconv"
	"strings"
	"testing"
)

// What most of the modules at random export, by number.
const (
	anyProc   = iota // its first instruction
	anyPtr           // a word that points, and one behind it
	anyCode          // a word that tells code, and one behind it
	anyNumber        // a word that isn't declared, and others behind it
	anyRec           // its last type
)

func someName(r *rand.Rand, count int) string { return "M" + strconv.Itoa(r.Intn(count)) }

// someImports are mostly of names behind its own, so that cycles are few.
func someImports(r *rand.Rand, own, count int) []string {
	var names []string
	for range r.Intn(4) {
		other := own + 1 + r.Intn(4)
		if r.Intn(25) == 0 {
			other = r.Intn(count)
		}
		s := "M" + strconv.Itoa(other)
		if other != own && other < count && !strings.Contains(strings.Join(names, " "), s) {
			names = append(names, s)
		}
	}
	return names
}

// someModule is a module that refers to itself and to its imports, and does any things.
func someModule(r *rand.Rand, own, count int) *source {
	x := module("M"+strconv.Itoa(own), someImports(r, own, count)...)
	x.data(6+r.Intn(6)).ptrs(0, 1).procs(2, 3).text(strings.Repeat("t", r.Intn(10)))
	imports := len(x.o.Imports)
	for i := range 1 + r.Intn(3) {
		switch {
		case imports > 0 && r.Intn(3) == 0:
			x.rec(4*r.Intn(65), 1+r.Intn(imports), anyRec)
		case i > 0 && r.Intn(2) == 0:
			x.rec(4*r.Intn(65), 0, r.Intn(i))
		default:
			x.rec(4*r.Intn(65), 0, -1)
		}
	}
	x.export(api.Proc, 0).export(api.Var, 0).export(api.Var, 2).export(api.Var, 4).export(api.Rec, len(x.o.Types)-1)
	x.ins(api.Go, 13, 0, 0)
	for _, s := range []string{"Run", "Go"} {
		x.cmd(s)
		someCode(r, x)
	}
	switch r.Intn(6) {
	case 0:
	case 1:
		// It tells others of itself, and traps.
		x.body()
		for range 4 {
			someTale(r, x, []int{anyPtr, anyCode}[r.Intn(2)])
		}
		x.ins(0, 0, 0, 0)
	default:
		x.body()
		someCode(r, x)
	}
	return someFault(r, x)
}

// someFault has some modules be others than they were to be.
func someFault(r *rand.Rand, x *source) *source {
	switch r.Intn(24) {
	case 0:
		return x.key(uint32(r.Intn(3)))
	case 1:
		return x.spoil()
	case 2:
		return noObject(x.o.Name, byte(r.Intn(256)), byte(r.Intn(256)))
	case 3:
		// Of its own exports only those that it doesn't refer to may go.
		most := 0
		for _, f := range x.refs {
			if f.mod == 0 {
				most = max(most, f.ent+1)
			}
		}
		x.o.Exports = x.o.Exports[:max(most, r.Intn(5))]
	case 4:
		for x.here() < 100+r.Intn(150) {
			x.back()
		}
	}
	return x
}

// someCode does some things, and goes back.
func someCode(r *rand.Rand, x *source) {
	for range r.Intn(6) {
		someThing(r, x)
	}
	x.back()
}

// someOther is mostly an import's number, if it has any.
func someOther(r *rand.Rand, x *source) int {
	if imports := len(x.o.Imports); imports > 0 && r.Intn(5) > 0 {
		return 1 + r.Intn(imports)
	}
	return 0
}

// someMod is its own number, or an import's.
func someMod(r *rand.Rand, x *source) int { return r.Intn(len(x.o.Imports) + 1) }

func someThing(r *rand.Rand, x *source) {
	switch r.Intn(16) {
	case 0, 1, 2, 3:
		someTale(r, x, anyPtr)
	case 4, 5, 6:
		someTale(r, x, anyCode)
	case 7:
		someTale(r, x, []int{anyPtr, anyCode, anyNumber}[r.Intn(3)])
	case 8, 9:
		x.ref(calls, 13, someMod(r, x), anyProc)
	case 10:
		x.ref(types, 1, someMod(r, x), anyRec).ins(api.Load, 2, 1, 4*r.Intn(5)).ref(addresses, 3, 0, anyNumber).ins(api.Store, 2, 3, 4*r.Intn(3))
	case 11:
		// Through a word that points, if it does.
		x.ref(addresses, 1, someMod(r, x), anyPtr).ins(api.Load, 1, 1, 4*r.Intn(2)).ins(api.Same, 1, 0, 1).ins(api.Store, 14, 1, 0)
	case 12:
		// To where a word tells code, if it does, and on from there.
		x.ref(addresses, 1, someMod(r, x), anyCode).ins(api.Load, 1, 1, 4*r.Intn(2)).ins(api.Same, 1, 0, 1).ins(api.Go, 1, 0, 0)
	case 13:
		x.ins(api.Load, 1, 14, -4).ins(api.More, 1, 1, 1).ins(api.Store, 1, 14, -4)
	case 14:
		if r.Intn(3) == 0 {
			x.ins(api.Jump, 0, 0, -1)
		}
	case 15:
		if r.Intn(2) == 0 {
			x.ins(r.Intn(24), r.Intn(16), r.Intn(16), r.Intn(16))
		}
	}
}

// someTale has a word of some module tell a place of some module, mostly one that it may tell.
func someTale(r *rand.Rand, x *source, kind int) {
	x.ref(addresses, 1, someOther(r, x), kind)
	told := kind
	if r.Intn(15) == 0 {
		told = []int{anyPtr, anyCode, anyNumber}[r.Intn(3)]
	}
	switch {
	case told == anyCode:
		x.ref(addresses, 2, someMod(r, x), anyProc)
	case r.Intn(2) == 0:
		x.ref(addresses, 2, 15, r.Intn(len(x.o.Text)+1))
	default:
		x.ref(addresses, 2, someMod(r, x), []int{anyPtr, anyCode, anyNumber}[r.Intn(3)])
	}
	x.ins(api.Store, 2, 1, 4*r.Intn(2))
}

// some does one thing with a system, and tells the error of a load.
func (g *rig) some(r *rand.Rand, count int, held bool) (bool, error) {
	name := someName(r, count)
	switch n := r.Intn(20); {
	case n < 3:
		own, _ := strconv.Atoi(name[1:])
		g.put(someModule(r, own, count))
	case n == 3 && r.Intn(4) == 0:
		if _, ok := g.p.files[name]; ok {
			g.delete(name)
		}
	case n < 12:
		_, err := g.load(name, []int{0, 3, 10, 20, 40, enough, enough}[r.Intn(7)])
		return true, err
	case n < 15:
		g.call(name, []string{"Run", "Go", "Run", "Go", "None"}[r.Intn(5)], []int{0, 5, 30, enough}[r.Intn(4)])
	default:
		if held || !g.p.held(name) {
			g.remove(name)
		}
	}
	return false, nil
}

// anyWorld is a system with files, of some size.
func anyWorld(t *testing.T, r *rand.Rand, count int) *rig {
	g := newRig(t, 1024+4*r.Intn(300), 2+r.Intn(9))
	for i := range count {
		if r.Intn(20) > 0 {
			g.put(someModule(r, i, count))
		}
	}
	g.fill(272, g.s.Mem().Size(), byte(r.Intn(256)))
	return g
}

// Where only those are removed that no declared cell of another one tells a place of, each cell may have its value behind each step.
func TestP20_4AnySteps(t *testing.T) {
	r := rand.New(rand.NewSource(2041))
	told, gone, cleared := map[error]int{}, 0, 0
	for range 600 {
		count := 4 + r.Intn(8)
		g := anyWorld(t, r, count)
		for range 60 {
			before := g.state()
			isLoad, err := g.some(r, count, false)
			g.checkCells()
			if !isLoad {
				continue
			}
			told[err]++
			if err != nil && !alike(before, g.state()) {
				t.Fatalf("behind %v all is %+v, was %+v", err, g.state(), before)
			}
		}
		gone, cleared = gone+g.p.gone, cleared+g.p.cleared
	}
	for _, err := range []error{nil, api.ErrNone, api.ErrForm, api.ErrKey, api.ErrCycle, api.ErrTable, api.ErrMemory, api.ErrTrap, api.ErrFuel} {
		if told[err] < 100 {
			t.Errorf("%v was told %d times: %v", err, told[err], told)
		}
	}
	if gone < 1000 || cleared < 100 {
		t.Errorf("only %d modules went with an error, and %d cells were made nothing", gone, cleared)
	}
}

// Where any are removed, all is as the chapter's words have it, and behind an error each cell may have its value.
func TestP20_4AnyStepsWithAnyRemovals(t *testing.T) {
	r := rand.New(rand.NewSource(2042))
	cleared := 0
	for range 400 {
		count := 4 + r.Intn(8)
		g := anyWorld(t, r, count)
		for range 60 {
			if isLoad, err := g.some(r, count, true); isLoad && err != nil {
				g.checkCells()
			}
		}
		cleared += g.p.cleared
	}
	if cleared < 100 {
		t.Errorf("only %d cells were made nothing", cleared)
	}
}

// T6, of any modules: loaded, and removed from the last one on, the modules, and the holes, are as they were.
func TestT6AnyModules(t *testing.T) {
	r := rand.New(rand.NewSource(206))
	many := 0
	for range 300 {
		count := 3 + r.Intn(6)
		g := anyWorld(t, r, count)
		for range 6 {
			before := g.state()
			for range 4 {
				g.load(someName(r, count), enough)
			}
			names := g.s.Table().Names()
			for i := len(names) - 1; i >= len(before.Names); i-- {
				g.removes(names[i])
				many++
			}
			if after := g.state(); !alike(before, after) {
				t.Fatalf("all is %+v, was %+v", after, before)
			}
			g.load(someName(r, count), enough)
		}
	}
	if many < 1000 {
		t.Errorf("only %d modules were removed", many)
	}
}
