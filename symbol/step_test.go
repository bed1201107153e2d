package symbol

import (
	"dowel/api"
	"dowel/cpu"
	"math"
	"math/rand"
	"testing"
)

// step does one step from a state, in the world, by the chapter's words, and on each machine; what comes of it is held against each other.
func (g *rig) step(s state) (state, int) {
	g.t.Helper()
	was := s
	q := &plainState{r: s.r, at: s.at}
	trap := g.w.step(&s)
	if want := g.p.step(q); trap != want || s.r != q.r || s.at != q.at {
		g.t.Fatalf("a step from %v is %v, trap %d, want %v, trap %d", was, s, trap, *q, want)
	}
	if trap != 0 && s != was {
		g.t.Fatalf("behind trap %d the state is %v, was %v", trap, s, was)
	}
	if trap != api.TrapMix {
		for i, m := range g.machines {
			m.step(g, i, was, s, trap)
		}
	}
	g.check()
	return s, trap
}

// step does a step on a machine, from a state to another one, with a trap.
func (m *machine) step(g *rig, number int, from, to state, trap int) {
	g.t.Helper()
	s, want := m.state(g, from), m.state(g, to)
	if got := cpu.Step(&s, m.s.Mem(), m.s.Zones()); got != trap || s != want {
		g.t.Fatalf("on machine %d a step from %v is %v, trap %d, want %v, trap %d", number, from, s, got, want, trap)
	}
}

// state is a state with the places that there are on a machine.
func (m *machine) state(g *rig, s state) cpu.State {
	g.t.Helper()
	var out cpu.State
	for i, v := range s.r {
		n, ok := g.w.Where(v, m.bases)
		if !ok {
			g.t.Fatalf("there is no %v", v)
		}
		out.R[i] = n
	}
	out.At = s.at.N
	if s.at.Mod > 0 {
		out.At += m.bases[s.at.Mod-1]
	} else if s.at.N < 0 {
		// As a place a number has no sign.
		out.At += 1 << 32
	}
	return out
}

// someNumber is mostly one at some edge.
func someNumber(r *rand.Rand) int {
	edges := []int{0, 0, 0, 1, -1, 4, -4, 8, 12, 15, 16, 20, 24, 80, 264, 268, 271, 272, 276, 300, 65536, math.MaxInt32, math.MinInt32}
	switch r.Intn(8) {
	case 0:
		return int(int32(r.Uint32()))
	case 1:
		return 16 + r.Intn(256)
	case 2:
		return r.Intn(200) - 100
	}
	return edges[r.Intn(len(edges))]
}

// someValue is a number, or a place of some module, mostly at a multiple of 4.
func (g *rig) someValue(r *rand.Rand) Value {
	if r.Intn(2) == 0 {
		return anumber(someNumber(r))
	}
	mod := 1 + r.Intn(len(g.p.mods))
	size := len(g.p.mods[mod-1].parts)
	if r.Intn(8) == 0 {
		return aplace(mod, size)
	}
	if mod == 3 && r.Intn(2) == 0 {
		// Mostly not in its code, which is far longer than all else.
		size = 64
	}
	n := r.Intn(size)
	switch r.Intn(6) {
	case 0:
	case 1, 2:
		// A declared cell.
		n = 4 * r.Intn(2)
	default:
		n = n / 4 * 4
	}
	return aplace(mod, n)
}

// someIns puts any instruction, of any op, or one that refers to something.
func someIns(r *rand.Rand, x *source) {
	a, b := r.Intn(16), r.Intn(16)
	switch op := 1 + r.Intn(22); op {
	case api.Set:
		switch r.Intn(3) {
		case 0:
			x.ref(addresses, a, r.Intn(3), []int{itsData, itsCode, itsWord}[r.Intn(3)])
		case 1:
			x.ref(types, a, r.Intn(3), itsType+r.Intn(2))
		case 2:
			x.ref(addresses, a, 15, r.Intn(6))
		}
	case api.Call:
		if r.Intn(2) == 0 {
			x.ref(calls, a, r.Intn(3), itsCode)
			return
		}
		x.ins(op, a, b, r.Intn(9)-4)
	case api.Load, api.Store, api.LoadB, api.StorB, api.More:
		n := []int{0, 0, 0, 4, -4, 8, 1, 20, 80, -80}[r.Intn(10)]
		if r.Intn(5) == 0 {
			n = r.Intn(200) - 100
		}
		x.ins(op, a, b, n)
	case api.Same, api.Other, api.Less, api.Jump, api.Go:
		x.ins(op, a, b, r.Intn(9)-4)
	default:
		x.ins(op, a, b, r.Intn(16))
	}
}

// P22.4, T4: any instructions, each from any state, wherever modules lie.
func TestP22_4AnySteps(t *testing.T) {
	r := rand.New(rand.NewSource(2241))
	told, ops := map[int]int{}, map[uint32]int{}
	for range 120 {
		p := prober()
		for p.here() < 240 {
			someIns(r, p)
		}
		g := newRig(t, []int{4 * r.Intn(100), 4 * r.Intn(100), r.Intn(2000)}, []int{r.Intn(9000), 0, r.Intn(9)})
		g.adds(target("A"), target("B"), p)
		for range 400 {
			var s state
			for reg := range s.r {
				s.r[reg] = g.someValue(r)
			}
			n := r.Intn(p.here())
			s.at = aplace(3, p.code()+4*n)
			if r.Intn(20) == 0 {
				s.at = g.someValue(r)
			}
			next, trap := g.step(s)
			told[trap]++
			if trap == 0 && s.at.Mod == 3 {
				ops[p.o.Code[(s.at.N-p.code())/4]>>26]++
			}
			// Where it goes on is told by the next step.
			if trap == 0 && next.at != anumber(-4) {
				_, trap = g.step(next)
				told[trap]++
			}
		}
	}
	for trap := range 8 {
		if told[trap] < 50 {
			t.Errorf("trap %d was told %d times: %v", trap, told[trap], told)
		}
	}
	for op := uint32(1); op <= 21; op++ {
		if ops[op] < 200 {
			t.Errorf("op %d was done %d times: %v", op, ops[op], ops)
		}
	}
}
