package symbol

import (
	"dowel/api"
	"math/rand"
	"strconv"
	"strings"
	"testing"
)

// By number, what modules at random export.
const (
	anyPtr    = iota // their first word, which points, and so does the one behind it
	anyCode          // their third word, which tells code, and so does the one behind it
	anyNumber        // their fifth word, which isn't declared, and others behind it
	anyProc          // where some of their code begins
	anyRec           // their last type
)

// writer writes a module at random; it knows of some registers what they have.
type writer struct {
	*source
	r       *rand.Rand
	place   [16]bool // whether a register has a place of data, as far as is known
	entries []int    // where code begins that may be called
}

func someModule(r *rand.Rand, number int) (*source, []int) {
	w := &writer{source: unit("M" + strconv.Itoa(number)), r: r}
	var imports []int
	for n := 1; n < number; n++ {
		if r.Intn(3) > 0 && len(imports) < api.MaxImports {
			imports = append(imports, n)
			s := "M" + strconv.Itoa(n)
			w.o.Imports = append(w.o.Imports, api.Import{Name: s, Key: keyOf(s)})
		}
	}
	w.data(6+r.Intn(6)).ptrs(0, 1).procs(2, 3).text(strings.Repeat("text", 3)[:r.Intn(13)])
	w.someTypes()
	w.export(api.Var, 0).export(api.Var, 2).export(api.Var, 4).export(api.Proc, 0).export(api.Rec, len(w.o.Types)-1)
	for range 1 + r.Intn(6) {
		w.someProc()
	}
	w.o.Exports[anyProc].At = w.entries[r.Intn(len(w.entries))]
	return w.source, imports
}

func (w *writer) someTypes() {
	most := 1 + w.r.Intn(3)
	for i := range most {
		switch {
		case i == 0 && len(w.o.Imports) > 0 && w.r.Intn(3) == 0:
			w.rec(4*w.r.Intn(65), w.someImport(), anyRec)
		case i > 0 && w.r.Intn(2) == 0:
			w.rec(4*w.r.Intn(65), 0, w.r.Intn(i))
		default:
			w.rec(4*w.r.Intn(65), 0, -1)
		}
	}
}

func (w *writer) someImport() int { return 1 + w.r.Intn(len(w.o.Imports)) }

// someMod is its own number, or an import's.
func (w *writer) someMod() int { return w.r.Intn(len(w.o.Imports) + 1) }

// reg is one that code at random may change freely.
func (w *writer) reg() int { return 1 + w.r.Intn(5) }

// someProc keeps where it came from in the stack, does some things, and goes back.
func (w *writer) someProc() {
	w.entries = append(w.entries, w.here())
	w.place = [16]bool{}
	w.ins(api.More, 14, 14, -16).ins(api.Store, 15, 14, 0)
	for range 2 + w.r.Intn(9) {
		if w.here() > 230 {
			break
		}
		w.someThing()
	}
	w.ins(api.Load, 15, 14, 0).ins(api.More, 14, 14, 16).back()
}

// at is a register that has a place of data.
func (w *writer) at() int {
	for range 8 {
		if a := w.reg(); w.place[a] {
			return a
		}
	}
	return w.set()
}

// set has a register have the place of a word that isn't declared.
func (w *writer) set() int {
	a := w.reg()
	w.ref(addresses, a, w.someMod(), anyNumber)
	w.place[a] = true
	return a
}

func (w *writer) someThing() {
	r := w.r
	switch r.Intn(20) {
	case 0, 1:
		// Any word of the data may be loaded and stored.
		at, a := w.at(), w.reg()
		op := []int{api.Load, api.Store, api.Load, api.Store, api.LoadB, api.StorB}[r.Intn(6)]
		w.ins(op, a, at, 4*r.Intn(2))
		w.place[a] = w.place[a] && (op == api.Store || op == api.StorB)
	case 2:
		at := w.at()
		w.ins(api.Set, 6, 0, someNumber(r)&0xffff).ins(api.Store, 6, at, 4).ins(api.LoadB, 6, at, 4+r.Intn(4)).ins(api.StorB, 6, at, 4+r.Intn(4))
	case 3:
		// A cell that points.
		w.ref(addresses, 6, w.someMod(), anyPtr)
		if r.Intn(2) == 0 {
			w.ref(types, 7, w.someMod(), anyRec)
		} else {
			w.ref(addresses, 7, w.someMod(), []int{anyPtr, anyCode, anyNumber, anyNumber, anyNumber, anyProc}[r.Intn(6)])
		}
		w.ins(api.More, 7, 7, r.Intn(4)*r.Intn(2)).ins(api.Store, 7, 6, 4*r.Intn(2))
	case 4:
		// A cell that tells code.
		w.ref(addresses, 6, w.someMod(), anyCode).ref(addresses, 7, w.someMod(), anyProc).ins(api.Store, 7, 6, 4*r.Intn(2))
	case 5:
		// Through a cell that points, if it does.
		w.ref(addresses, 6, w.someMod(), anyPtr).ins(api.Load, 6, 6, 4*r.Intn(2)).ins(api.Same, 6, 0, 1).ins(api.Load, 7, 6, 0)
	case 6:
		// To where a cell tells code, if it does, and back.
		w.ref(addresses, 6, w.someMod(), anyCode).ins(api.Load, 6, 6, 4*r.Intn(2)).ins(api.Same, 6, 0, 3).ins(api.Call, 15, 0, 0).ins(api.More, 15, 15, 8).ins(api.Go, 6, 0, 0)
		w.place = [16]bool{}
	case 7, 8:
		w.ref(calls, 15, w.someMod(), anyProc)
		w.place = [16]bool{}
	case 9:
		w.ref(types, 6, w.someMod(), anyRec).ins(api.Load, 7, 6, 4*r.Intn(5)).ins(api.Store, 7, 14, 4+4*r.Intn(3))
	case 10:
		// Two places of one module.
		w.ref(addresses, 6, 0, anyPtr).ref(addresses, 7, 0, anyNumber).ins([]int{api.Sub, api.Same, api.Other, api.Less}[r.Intn(4)], 6, 7, 6).fill(w.here() + 6)
	case 11:
		w.ins(2+r.Intn(9), 8, 8+r.Intn(4), 8+r.Intn(4)).ins(api.Set, 8+r.Intn(4), 0, someNumber(r)&0x1ffff)
	case 12:
		w.ref(addresses, 6, 15, r.Intn(len(w.o.Text)+1)).ins(api.LoadB, 7, 6, 0).ins(api.Store, 7, 14, 12)
	case 13:
		w.ins(api.Store, w.reg(), 14, 4+4*r.Intn(3)).ins([]int{api.Load, api.LoadB}[r.Intn(2)], 6, 14, 4+4*r.Intn(3))
	case 14:
		// Some times round.
		w.ins(api.Set, 9, 0, 1+r.Intn(5)).ins(api.More, 9, 9, -1).ins(api.Other, 9, 0, -2)
	case 15:
		a := w.reg()
		w.ins(api.More, a, a, 4*r.Intn(5)-8)
	case 16:
		if r.Intn(3) == 0 {
			w.ins(1+r.Intn(22), r.Intn(16), r.Intn(16), r.Intn(16))
		}
	case 17, 18:
		w.ref(addresses, 6, w.someMod(), anyNumber).ins(api.Set, 7, 0, someNumber(r)&0x1ffff).ins(api.Store, 7, 6, 4*r.Intn(2))
	case 19:
		if r.Intn(4) == 0 {
			w.ins([]int{api.Same, api.Other, api.Less, api.Jump}[r.Intn(4)], w.reg(), w.reg(), r.Intn(7)-3)
		}
	}
}

// P22.4, T4: any modules, calls, and fuel, wherever modules lie.
func TestP22_4AnyCalls(t *testing.T) {
	r := rand.New(rand.NewSource(2242))
	told, long, kinds := map[api.Outcome]int{}, 0, [3]int{}
	for range 500 {
		var ahead []int
		for range 8 {
			ahead = append(ahead, r.Intn(3)*r.Intn(3000))
		}
		g := newRig(t, nil, ahead)
		most := 1 + r.Intn(8)
		for number := 1; number <= most; number++ {
			x, imports := someModule(r, number)
			if _, err := g.tryAdd(x, imports...); err != nil {
				break
			}
		}
		for range 60 {
			mod, at := 1+r.Intn(most), 0
			if mod <= len(g.p.mods) {
				x := g.p.mods[mod-1].x
				at = x.o.Exports[anyProc].At
				if r.Intn(6) == 0 {
					at = r.Intn(x.here())
				}
			}
			o := g.call(mod, at, []int{r.Intn(30), r.Intn(300), enough, 2000}[r.Intn(4)])
			if o.Steps > 40 {
				long++
			}
		}
		for i := range g.p.mods {
			for _, v := range g.w.Data(1 + i) {
				if v != anumber(0) {
					kinds[min(v.Mod, 2)]++
				}
			}
		}
		for o, n := range g.told {
			told[o] += n
		}
	}
	for _, o := range []api.Outcome{done(0), spent(0), trapped(api.TrapCode, 0), trapped(api.TrapRange, 0), trapped(api.TrapAlign, 0), trapped(api.TrapJump, 0), trapped(api.TrapPointer, 0), trapped(api.TrapMix, 0), trapped(api.TrapDivide, 0)} {
		if told[o] < 50 {
			t.Errorf("%+v was told %d times: %v", o, told[o], told)
		}
	}
	if long < 1000 || kinds[0] < 1000 || kinds[1] < 300 || kinds[2] < 500 {
		t.Errorf("%d calls were long; data words: %d numbers but 0, %d places of the first module, %d of others", long, kinds[0], kinds[1], kinds[2])
	}
}
