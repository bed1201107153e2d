package reloc

import (
	"dowel/api"
	"dowel/cpu"
	"dowel/mem"
	"dowel/run"
	"dowel/zone"
	"math/rand"
	"testing"
)

// machine is a memory, in which linked code lies where it was linked for.
type machine struct {
	m *mem.Memory
	z *zone.Zones
}

// machineOf links code, and lays it from a place on, with eight bytes of data ahead of it.
func machineOf(t *testing.T, code []uint32, from int, l []Fix) machine {
	t.Helper()
	linked, err := Link(code, from, l)
	if err != nil {
		t.Fatalf("Link(%x, %d, %v): %v", brief(code), from, brief(l), err)
	}
	m, err := mem.New(api.MaxSize)
	if err != nil {
		t.Fatal(err)
	}
	z := zone.New()
	if err := z.Add(zone.Zone{Base: from - 8, Data: from, Read: from, End: from + 4*len(linked)}); err != nil {
		t.Fatal(err)
	}
	for i, word := range linked {
		if trap := m.SetWord(from+4*i, word); trap != 0 {
			t.Fatalf("SetWord(%d): trap %d", from+4*i, trap)
		}
	}
	return machine{m, z}
}

// step does the instruction at a place, with all registers 0.
func (g machine) step(t *testing.T, at int) cpu.State {
	t.Helper()
	s := cpu.State{At: at}
	if trap := cpu.Step(&s, g.m, g.z); trap != 0 {
		t.Fatalf("a step at %d: trap %d", at, trap)
	}
	return s
}

// From each place of a piece of code to each other one, and some beyond it.
func TestP17_3ACallGoesThere(t *testing.T) {
	const count = 12
	for _, from := range []int{280, 400, 4000, 65488} {
		for at := range count {
			for on := -70; on < 3*count; on++ {
				code := make([]uint32, count)
				code[at] = call(7, 0, 64)
				own := from + 4*at
				g := machineOf(t, code, from, []Fix{{at, own + 4*on}})
				s := g.step(t, own)
				if s.At != own+4*on || s.R[7] != int32(own+4) {
					t.Fatalf("a Call at %d to %d goes to %d, and keeps %d", own, own+4*on, s.At, s.R[7])
				}
			}
		}
	}
}

// All a Call can reach: the farthest N, ahead and back.
func TestP17_3ACallGoesFar(t *testing.T) {
	for _, n := range []int{leastN, leastN + 1, -16384, -1, 0, 1, 16384, mostN - 1, mostN} {
		target := 404 + 4*n
		g := machineOf(t, []uint32{call(7, 0, 0)}, 400, []Fix{{0, target}})
		if s := g.step(t, 400); s.At != target {
			t.Fatalf("a Call to %d goes to %d", target, s.At)
		}
	}
}

func TestP17_3ASetTellsItsTarget(t *testing.T) {
	targets := []int{leastN, leastN + 1, -65536, -400, -1, 0, 1, 2, 3, 16, 272, 401, 404, 65535, 65536, mostN - 1, mostN}
	for a := range 16 {
		for _, target := range targets {
			for at := range 3 {
				code := make([]uint32, 3)
				code[at] = set(a, 0, 64)
				g := machineOf(t, code, 400, []Fix{{at, target}})
				s := g.step(t, 400+4*at)
				if s.R[a] != int32(target) || s.At != 404+4*at {
					t.Fatalf("a Set to %d tells register %d %d, and goes to %d", target, a, s.R[a], s.At)
				}
			}
		}
	}
}

// A body that calls ahead, which calls back, and stores what it was told to where it was told to.
func TestP17_3CodeThatIsCalled(t *testing.T) {
	back := wordOf(api.Go, 9, 0, 0)
	code := []uint32{
		set(2, 0, 0), // 0: the number
		back,
		call(8, 0, 0), // 2: begins here
		wordOf(api.Go, 15, 0, 0),
		set(1, 0, 0), // 4: the place
		call(9, 0, 0),
		wordOf(api.Store, 2, 1, 0),
		wordOf(api.Go, 8, 0, 0),
	}
	for _, from := range []int{280, 400, 2000, 65000} {
		g := machineOf(t, code, from, []Fix{{0, 1234}, {2, from + 16}, {4, from - 8}, {5, from}})
		want := api.Outcome{End: api.Done, Steps: 8}
		if o := run.Call(g.m, g.z, from+8, 100); o != want {
			t.Fatalf("from %d: %+v, want %+v", from, o, want)
		}
		if word, trap := g.m.Word(from - 8); word != 1234 || trap != 0 {
			t.Fatalf("from %d: the word is %d, trap %d", from, word, trap)
		}
	}
}

func TestP17_3AnyCallsGoThere(t *testing.T) {
	r := rand.New(rand.NewSource(173))
	for range 300 {
		from := 280 + 4*r.Intn(16000)
		code, fixes := make([]uint32, 1+r.Intn(min(256, (api.MaxSize-from)/4))), []Fix{}
		for at := range code {
			code[at] = call(r.Intn(16), r.Intn(16), r.Intn(1<<18))
			fixes = append(fixes, Fix{at, 4 * (r.Intn(200000) - 90000)})
		}
		r.Shuffle(len(fixes), func(i, j int) { fixes[i], fixes[j] = fixes[j], fixes[i] })
		g := machineOf(t, code, from, fixes)
		for _, f := range fixes {
			if s := g.step(t, from+4*f.At); s.At != f.Target {
				t.Fatalf("the Call at %d of %d to %d goes to %d", f.At, from, f.Target, s.At)
			}
		}
	}
}
