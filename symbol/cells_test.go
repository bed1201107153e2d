package symbol

import (
	"dowel/api"
	"math"
	"testing"
)

// Where a target's declared cells are, and words that aren't declared.
const (
	ptrAt  = 0
	procAt = 4
)

// holds asks for the trap of a store of a value to both kinds of declared cells: its own ones, and another module's.
func holds(t *testing.T, v Value, ptr, proc int) {
	t.Helper()
	for mod := 1; mod <= 3; mod++ {
		g := stores(t, api.Store, v, aplace(mod, ptrAt), 0, ptr)
		want := Value{}
		if ptr == 0 {
			want = v
		}
		if l := g.w.Data(mod); l[0] != want || l[1] != (Value{}) {
			t.Errorf("behind a store of %v in %d the data are %v", v, mod, l)
		}
		g = stores(t, api.Store, v, aplace(mod, procAt), 0, proc)
		want = Value{}
		if proc == 0 {
			want = v
		}
		if l := g.w.Data(mod); l[1] != want || l[0] != (Value{}) {
			t.Errorf("behind a store of %v in %d the data are %v", v, mod, l)
		}
		stores(t, api.Store, v, aplace(mod, 8), 0, 0)
	}
}

// A word stored to a declared cell, of numbers: 0 it may be, below StackTo it may not, of others it isn't known.
func TestP22_2CellsOfNumbers(t *testing.T) {
	holds(t, anumber(0), 0, 0)
	for _, n := range []int{1, 2, 4, 15, 16, 100, 268, 271} {
		holds(t, anumber(n), api.TrapPointer, api.TrapPointer)
	}
	for _, n := range []int{272, 273, 276, 352, 65535, 65536, math.MaxInt32, math.MinInt32, -272, -4, -1} {
		holds(t, anumber(n), api.TrapMix, api.TrapMix)
	}
}

// Of places: each one of a target's block.
func TestP22_2CellsOfPlaces(t *testing.T) {
	for at := 0; at <= targetSize; at++ {
		ptr, proc := 0, api.TrapPointer
		switch {
		case at == targetSize:
			ptr, proc = api.TrapMix, api.TrapMix
		case at >= targetCode && at%4 == 0:
			ptr, proc = api.TrapPointer, 0
		case at >= targetCode:
			ptr = api.TrapPointer
		}
		holds(t, aplace(2, at), ptr, proc)
	}
}

// Of places of the prober's own block, at the ends of its parts.
func TestP22_2CellsOfItsOwn(t *testing.T) {
	for _, at := range []int{0, 3, 23, 24, 55, 56, 63} {
		holds(t, aplace(3, at), 0, api.TrapPointer)
	}
	for _, at := range []int{64, 68, 72} {
		holds(t, aplace(3, at), api.TrapPointer, 0)
	}
	for _, at := range []int{65, 66, 67, 71} {
		holds(t, aplace(3, at), api.TrapPointer, api.TrapPointer)
	}
	for _, cell := range []int{ptrAt, procAt} {
		p := prober().value(1, aplace(3, 4))
		size := p.size() + 4*4
		p.ins(api.More, 2, 1, size-4).ins(api.Store, 2, 1, cell-4).back()
		p.none()
		probe(t, p).is(3, 0, enough, trapped(api.TrapMix, 3))
		// One below the end: it is the last instruction's last byte; four below: that instruction.
		p.o.Code[2]--
		probe(t, p).is(3, 0, enough, trapped(api.TrapPointer, 3))
		p.o.Code[2] -= 3
		if cell == procAt {
			probe(t, p).is(3, 0, enough, done(5)).has(3, append([]Value{{}, aplace(3, size-4)}, numbers(0, 0, 0, 0)...)...)
		} else {
			probe(t, p).is(3, 0, enough, trapped(api.TrapPointer, 3))
		}
	}
}

// A module may have no part but its code: no place of it may be in a cell that points, but for none of its text and types.
func TestP22_2CellsOfCodeAlone(t *testing.T) {
	for at := range 9 {
		for cell := range 2 {
			g := newRig(t, twoWays()...).adds(unit("A").export(api.Proc, 0).back().back())
			p := unit("B", "A").data(2).ptrs(0).procs(1).export(api.Var, 0)
			p.ref(addresses, 1, 1, 0).ins(api.More, 1, 1, at).keep(1, cell).back()
			g.add(p, 1)
			want := trapped(api.TrapPointer, 3)
			switch {
			case at == 8:
				want = trapped(api.TrapMix, 3)
			case cell == 1 && at%4 == 0:
				want = done(5)
			}
			g.is(2, 0, enough, want)
		}
	}
}

// A cell that has a value may have another one, and nothing; one that it may not have leaves it.
func TestP22_2CellsAgain(t *testing.T) {
	p := prober().value(1, aplace(1, 0)).value(2, aplace(2, 8)).value(3, aplace(2, 64))
	p.ins(api.Store, 2, 1, ptrAt).ins(api.Store, 3, 1, procAt).ins(api.More, 2, 2, 55).ins(api.Store, 2, 1, ptrAt)
	p.ins(api.More, 4, 2, 1).ins(api.Store, 4, 1, ptrAt).back()
	clear := p.here()
	p.value(1, aplace(1, 0)).ins(api.Store, 0, 1, ptrAt).ins(api.Set, 2, 0, 271).ins(api.Store, 2, 1, procAt).back()
	g := probe(t, p)
	g.is(3, 0, enough, trapped(api.TrapPointer, 10)).has(1, aplace(2, 63), aplace(2, 64), Value{}, Value{}, Value{}, Value{})
	g.is(3, clear, enough, trapped(api.TrapPointer, 3)).has(1, Value{}, aplace(2, 64), Value{}, Value{}, Value{}, Value{})
}

// Up to 16 words of each kind may be declared, wherever they are in data.
func TestP22_2ManyCells(t *testing.T) {
	x := unit("A").data(64).export(api.Var, 0).export(api.Proc, 0)
	for i := range 16 {
		x.ptrs(4*i + 1).procs(4*i + 2)
	}
	x.ref(addresses, 1, 0, 0).ref(addresses, 2, 0, 1)
	for word := range 64 {
		at := x.here()
		switch word % 4 {
		case 1:
			x.ins(api.Store, 1, 1, 4*word)
		default:
			x.ins(api.Store, 2, 1, 4*word)
		}
		if x.here() != at+1 {
			t.Fatal("one instruction a word")
		}
	}
	x.back()
	g := newRig(t, twoWays()...).adds(x)
	g.is(1, 0, enough, done(67))
	for word := range 64 {
		for kind, v := range []int{1, 2} {
			y := unit("B", "A").ref(addresses, 1, 1, 0).ref(addresses, 2, 1, 1).ins(api.Store, v, 1, 4*word).none()
			o := trapped(api.TrapCode, 3)
			if word%4 == 1 && kind == 1 || word%4 == 2 && kind == 0 {
				o = trapped(api.TrapPointer, 2)
			}
			g := newRig(t, nil).adds(x)
			g.add(y, 1)
			g.is(2, 0, enough, o)
		}
	}
}
