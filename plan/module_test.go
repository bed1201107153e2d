package plan

import (
	"dowel/api"
	"dowel/check"
	"math/rand"
	"slices"
	"strings"
	"testing"
)

// checkInParts asks of what may be a module for what follows (P15.2), and tells how many exports of each Kind there were.
func checkInParts(t *testing.T, o api.Object) [3]int {
	t.Helper()
	if !check.Valid(o) {
		t.Fatalf("it may not be a module: %s", brief(o))
	}
	p := Of(o)
	if p.Types%4 != 0 || p.Text%4 != 0 || p.Code%4 != 0 || p.Size%4 != 0 {
		t.Fatalf("Of = %+v: %s", p, brief(o))
	}
	from := [3]int{p.Code, 0, p.Types}
	to := [3]int{p.Size, p.Types, p.Text}
	counts := [3]int{}
	for n, e := range o.Exports {
		at, ok := Export(o, n)
		if !ok || at%4 != 0 || at < from[e.Kind] || at >= to[e.Kind] {
			t.Fatalf("Export %d = %d, %v, in %+v: %s", n, at, ok, p, brief(o))
		}
		counts[e.Kind]++
	}
	return counts
}

// module is what may be a module, of so much of each part.
func module(data, types, text, code int) api.Object {
	o := sized(data, types, text, code)
	o.Name = "M"
	for i := range o.Types {
		o.Types[i].Base = -1
	}
	return o
}

// ends are exports of each Kind's first place, of one in the middle, and of its last one.
func ends(o api.Object) []api.Export {
	var exports []api.Export
	for kind, count := range []int{len(o.Code), o.Data, len(o.Types)} {
		if count > 0 {
			exports = append(exports, api.Export{Kind: kind, At: count - 1}, api.Export{Kind: kind, At: 0}, api.Export{Kind: kind, At: count / 2})
		}
	}
	return exports
}

func TestP15_2SixtyFourExports(t *testing.T) {
	o := module(64, 8, 59, 256)
	for i := range 64 {
		o.Exports = append(o.Exports, api.Export{Kind: i % 3, At: [3]int{255 - i, 63 - i, i % 8}[i%3]})
	}
	if counts := checkInParts(t, o); counts != [3]int{22, 21, 21} {
		t.Errorf("there are exports of each Kind: %v", counts)
	}
	checkPlain(t, o)
	// Every word of data and every type, and nearly every word of code, is where no other one is.
	met := map[int]bool{}
	for _, exports := range [][]api.Export{each(api.Var, 0, 64), append(each(api.Rec, 0, 8), each(api.Proc, 0, 56)...), each(api.Proc, 56, 64), each(api.Proc, 120, 64), each(api.Proc, 184, 64)} {
		o.Exports = exports
		checkInParts(t, o)
		for n := range exports {
			at, _ := Export(o, n)
			if met[at] {
				t.Fatalf("two exports are at %d", at)
			}
			met[at] = true
		}
	}
	if len(met) != 64+8+248 {
		t.Errorf("there are %d places", len(met))
	}
}

// each are exports of so many places of a Kind, from one on.
func each(kind, from, count int) []api.Export {
	var exports []api.Export
	for i := range count {
		exports = append(exports, api.Export{Kind: kind, At: from + i})
	}
	return exports
}

func TestP15_2LastPlaces(t *testing.T) {
	for _, data := range []int{0, 1, 2, 63, 64} {
		for types := range 9 {
			for _, text := range []int{0, 1, 2, 3, 4, 5, 8, 57, 58, 59, 60} {
				for _, code := range []int{1, 2, 255, 256} {
					o := module(data, types, text, code)
					o.Exports = ends(o)
					checkInParts(t, o)
					p := Of(o)
					checkExport(t, o, 0, p.Size-4)
					if data > 0 {
						checkExport(t, o, 3, p.Types-4)
					}
					if types > 0 {
						checkExport(t, o, len(o.Exports)-3, p.Text-16)
					}
				}
			}
		}
	}
}

// A module of all that there may be is as long as any.
func TestP15_2TheGreatestModule(t *testing.T) {
	o := module(64, 8, 60, 256)
	o.Exports = ends(o)
	checkInParts(t, o)
	checkPlan(t, o, Plan{256, 384, 444, 1468})
	o = module(0, 0, 0, 1)
	o.Exports = ends(o)
	checkInParts(t, o)
	checkPlan(t, o, Plan{0, 0, 0, 4})
	checkExport(t, o, 0, 0)
}

// maker makes objects at random.
type maker struct{ *rand.Rand }

// upTo is a number from 0 on, often one of the ends.
func (m maker) upTo(most int) int {
	switch m.Intn(5) {
	case 0:
		return 0
	case 1:
		return most
	}
	return m.Intn(most + 1)
}

// right is an object that may be a module.
func (m maker) right() api.Object {
	o := module(m.upTo(64), m.upTo(8), m.upTo(60), 1+m.upTo(255))
	o.Name, o.Key = "N"+strings.Repeat("n", m.upTo(15)), m.Uint32()
	for i := range o.Types {
		o.Types[i].Size = 4 * m.upTo(64)
	}
	for i := range o.Code {
		o.Code[i] = m.Uint32()
	}
	counts := [3]int{len(o.Code), o.Data, len(o.Types)}
	for range m.upTo(64) {
		if kind := m.Intn(3); counts[kind] > 0 {
			o.Exports = append(o.Exports, api.Export{Kind: kind, At: m.upTo(counts[kind] - 1)})
		}
	}
	return o
}

func TestP15_2AnyModules(t *testing.T) {
	m := maker{rand.New(rand.NewSource(151))}
	told := [3]int{}
	for range 3000 {
		o := m.right()
		for kind, count := range checkInParts(t, o) {
			told[kind] += count
		}
		checkPlain(t, o)
	}
	for kind, count := range told {
		if count < 10000 {
			t.Errorf("only %d exports of Kind %d were told", count, kind)
		}
	}
}

// wild is an object of any numbers around the edges, mostly none that may be a module.
func (m maker) wild() api.Object {
	edges := []int{-64, -4, -2, -1, 0, 1, 2, 3, 4, 5, 7, 8, 9, 15, 16, 17, 59, 60, 61, 63, 64, 65, 66, 255, 256, 257, 258}
	n := func() int { return edges[m.Intn(len(edges))] }
	o := sized(n(), m.upTo(12), m.upTo(70), m.upTo(270))
	o.Body, o.Fix = n(), [3]int{n(), n(), n()}
	o.Imports = make([]api.Import, m.upTo(10))
	o.Cmds = make([]api.Entry, m.upTo(10))
	for range m.upTo(20) {
		o.Ptrs, o.Procs = append(o.Ptrs, n()), append(o.Procs, n())
	}
	for range m.upTo(70) {
		kind := m.Intn(3)
		if m.Intn(5) == 0 {
			kind = n()
		}
		o.Exports = append(o.Exports, api.Export{Kind: kind, At: n()})
	}
	letters := []byte(o.Text)
	m.Read(letters)
	o.Text = string(letters)
	return o
}

func TestP15_1AnyObjects(t *testing.T) {
	m := maker{rand.New(rand.NewSource(152))}
	for range 5000 {
		checkPlain(t, m.wild())
	}
}

// Each number is a multiple of 4 whatever the object is, also where Data, or a place, is too great to be told.
func TestP15_2AnyObjectsMultiplesOfFour(t *testing.T) {
	for _, data := range slices.Concat(far, []int{0, 1, 64}) {
		for text := range 9 {
			for _, at := range far {
				o := sized(data, text%4, text, 3)
				o.Exports = []api.Export{{Kind: api.Proc, At: at}, {Kind: api.Var, At: at}, {Kind: api.Rec, At: at}}
				p := Of(o)
				if p.Types%4 != 0 || p.Text%4 != 0 || p.Code%4 != 0 || p.Size%4 != 0 {
					t.Fatalf("Of = %+v: %s", p, brief(o))
				}
				for n := range o.Exports {
					if place, ok := Export(o, n); !ok || place%4 != 0 {
						t.Fatalf("Export %d = %d, %v: %s", n, place, ok, brief(o))
					}
				}
			}
		}
	}
}
