package check

import (
	"dowel/api"
	"math/rand"
	"slices"
	"strconv"
	"strings"
	"testing"
)

// maker makes objects at random: such as may be modules, and such as nearly may be.
type maker struct{ *rand.Rand }

// upTo is a number from 0 on, often one of the ends.
func (m maker) upTo(most int) int {
	switch m.Intn(5) {
	case 0:
		return 0
	case 1:
		return most
	}
	return m.Intn(most + 1)
}

// cells shuffles data words into two lists, each rising.
func (m maker) cells(data int) (ptrs, procs []int) {
	words := m.Perm(data)
	cut := m.upTo(min(16, data))
	ptrs = words[:cut]
	procs = words[cut : cut+m.upTo(min(16, data-cut))]
	slices.Sort(ptrs)
	slices.Sort(procs)
	return slices.Clone(ptrs), slices.Clone(procs)
}

// right is an object that may be a module.
func (m maker) right() api.Object {
	o := bare()
	o.Key = m.Uint32()
	for i := range m.upTo(8) {
		o.Imports = append(o.Imports, api.Import{Name: "N" + strconv.Itoa(i), Key: m.Uint32()})
	}
	for i := range m.upTo(8) {
		one := api.Type{Size: 4 * m.upTo(64), Base: -1}
		switch m.Intn(3) {
		case 0:
			one.Base = m.upTo(i) - 1
		case 1:
			if len(o.Imports) > 0 {
				one.Mod, one.Base = 1+m.Intn(len(o.Imports)), m.upTo(63)
			}
		}
		o.Types = append(o.Types, one)
	}
	o.Data = m.upTo(64)
	o.Text = strings.Repeat("t", m.upTo(60))
	o.Code = make([]uint32, 1+m.upTo(255))
	for i := range m.upTo(8) {
		o.Cmds = append(o.Cmds, api.Entry{Name: "N" + strconv.Itoa(i), At: m.upTo(len(o.Code) - 1)})
	}
	for range m.upTo(64) {
		kind := m.Intn(3)
		if most := []int{len(o.Code), o.Data, len(o.Types)}[kind]; most > 0 {
			o.Exports = append(o.Exports, api.Export{Kind: kind, At: m.upTo(most - 1)})
		}
	}
	o.Ptrs, o.Procs = m.cells(o.Data)
	o.Body = m.upTo(len(o.Code))
	m.chains(&o)
	return o
}

// target is something that a chain's references may mean, if there is such.
func (m maker) target(o api.Object, which int) (mod, ent int, ok bool) {
	for range 20 {
		mod, ent = []int{0, 15, 1 + m.Intn(9)}[m.Intn(3)], m.Intn(64)
		switch {
		case mod == 0 && len(o.Exports) > 0:
			ent = m.upTo(len(o.Exports) - 1)
			ok = slices.Contains([][]int{{0}, {0, 1}, {2}}[which], o.Exports[ent].Kind)
		case mod == 15:
			ent = m.upTo(len(o.Text))
			ok = which == 1
		default:
			ok = isAmong(mod, 1, len(o.Imports))
		}
		if ok {
			return mod, ent, true
		}
	}
	return 0, 0, false
}

// chains lays three chains, each place in one of them or in none.
func (m maker) chains(o *api.Object) {
	var last [3]int
	use := m.Intn(8)
	for at := range o.Code {
		o.Code[at] = m.Uint32()
		which := m.Intn(4 + use)
		if which > 2 {
			continue
		}
		mod, ent, ok := m.target(*o, which)
		down := at + 1 - last[which]
		if last[which] == 0 {
			down = 0
		}
		if !ok || down > 255 {
			continue
		}
		o.Code[at] = wordOf(ops[which], m.Intn(16), 0, (down*16+mod)*64+ent)
		last[which] = at + 1
	}
	o.Fix = last
}

// edges are numbers around all that the chapter names.
var edges = []int{-4, -2, -1, 0, 1, 2, 3, 4, 7, 8, 9, 15, 16, 17, 59, 60, 61, 63, 64, 65, 255, 256, 257, 258, 260}

// spoil turns one thing of an object, mostly by a little.
func (m maker) spoil(o *api.Object) {
	n := edges[m.Intn(len(edges))]
	if m.Intn(12) == 0 {
		n = far[m.Intn(len(far))]
	}
	set := settersOf(o)
	set[m.Intn(len(set))](n, m)
}

// some calls do with the number of one of a list's elements, if there is any.
func some(m maker, count int, do func(i int)) {
	if count > 0 {
		do(m.Intn(count))
	}
}

// settersOf change one part each.
func settersOf(o *api.Object) []func(n int, m maker) {
	return []func(n int, m maker){
		func(n int, m maker) {
			o.Name = []string{"", "2", "N0", "N7", "n0", "M_", "abcdefghijklmnopq"}[m.Intn(7)]
		},
		func(n int, m maker) {
			some(m, len(o.Imports), func(i int) { o.Imports[i].Name = []string{"", "é", "M", "N0", "N3", "m"}[m.Intn(6)] })
		},
		func(n int, m maker) {
			some(m, len(o.Cmds), func(i int) { o.Cmds[i].Name = []string{"", "é", "M", "N0", "N3", "m"}[m.Intn(6)] })
		},
		func(n int, m maker) { o.Imports = append(o.Imports, api.Import{Name: "Next"}) },
		func(n int, m maker) { o.Cmds = append(o.Cmds, api.Entry{Name: "Next"}) },
		func(n int, m maker) { o.Data = n },
		func(n int, m maker) { o.Text = strings.Repeat("t", max(0, min(n, 300))) },
		func(n int, m maker) { o.Code = append(o.Code, m.Uint32()) },
		func(n int, m maker) { o.Code = o.Code[:m.Intn(len(o.Code)+1)] },
		func(n int, m maker) { o.Types = append(o.Types, api.Type{Base: -1}) },
		func(n int, m maker) { some(m, len(o.Types), func(i int) { o.Types[i].Size = n }) },
		func(n int, m maker) { some(m, len(o.Types), func(i int) { o.Types[i].Mod = n }) },
		func(n int, m maker) { some(m, len(o.Types), func(i int) { o.Types[i].Base = n }) },
		func(n int, m maker) { some(m, len(o.Cmds), func(i int) { o.Cmds[i].At = n }) },
		func(n int, m maker) { o.Exports = append(o.Exports, api.Export{}) },
		func(n int, m maker) { some(m, len(o.Exports), func(i int) { o.Exports[i].Kind = n }) },
		func(n int, m maker) { some(m, len(o.Exports), func(i int) { o.Exports[i].At = n }) },
		func(n int, m maker) { some(m, len(o.Ptrs), func(i int) { o.Ptrs[i] = n }) },
		func(n int, m maker) { some(m, len(o.Procs), func(i int) { o.Procs[i] = n }) },
		func(n int, m maker) { o.Ptrs = append(o.Ptrs, max(o.Data-1, 0)) },
		func(n int, m maker) { o.Procs = append(o.Procs, max(o.Data-1, 0)) },
		func(n int, m maker) { o.Body = n },
		func(n int, m maker) { o.Body = len(o.Code) + m.Intn(3) - 1 },
		func(n int, m maker) { o.Fix[m.Intn(3)] = n },
		func(n int, m maker) { o.Fix[m.Intn(3)] = o.Fix[m.Intn(3)] },
		func(n int, m maker) { o.Fix[m.Intn(3)] = m.upTo(len(o.Code)) },
		func(n int, m maker) { some(m, len(o.Code), func(i int) { o.Code[i] ^= 1 << m.Intn(32) }) },
		func(n int, m maker) {
			for range 10 {
				some(m, len(o.Code), func(i int) { o.Code[i] ^= 1 << m.Intn(18) })
			}
		},
	}
}

func TestP14_1AnyModules(t *testing.T) {
	m := maker{rand.New(rand.NewSource(141))}
	told := [3]int{}
	for range 5000 {
		o := m.right()
		checkMay(t, o)
		refs, _ := Refs(o)
		for which, list := range refs {
			told[which] += len(list)
		}
	}
	for which, count := range told {
		if count < 5000 {
			t.Errorf("only %d references of chain %d were told", count, which)
		}
	}
}

func TestP14_1AnyThatNearlyMayBe(t *testing.T) {
	m := maker{rand.New(rand.NewSource(142))}
	counts := [8]int{}
	for range 60000 {
		o := m.right()
		for range 1 + m.Intn(2) {
			m.spoil(&o)
		}
		switch numbers := checkPlain(t, o); len(numbers) {
		case 0:
			counts[0]++
		case 1:
			counts[numbers[0]]++
		}
	}
	for point, count := range counts {
		if count < 400 {
			t.Errorf("point %d alone was broken in only %d objects (0: none)", point, count)
		}
	}
}

// wild is an object of any numbers around the edges.
func (m maker) wild() api.Object {
	n := func() int { return edges[m.Intn(len(edges))] }
	o := api.Object{Name: []string{"M", "N0", ""}[m.Intn(3)], Data: n(), Body: n(), Fix: [3]int{n(), n(), n()}, Text: strings.Repeat("a", max(n(), 0))}
	for i := range m.Intn(4) {
		o.Imports = append(o.Imports, api.Import{Name: "N" + strconv.Itoa(i)})
		o.Cmds = append(o.Cmds, api.Entry{Name: "N" + strconv.Itoa(i), At: n()})
		o.Types = append(o.Types, api.Type{Size: n(), Mod: n(), Base: n()})
		o.Exports = append(o.Exports, api.Export{Kind: n(), At: n()})
		o.Ptrs = append(o.Ptrs, n())
		o.Procs = append(o.Procs, n())
	}
	for range max(n(), 0) {
		o.Code = append(o.Code, link(ops[m.Intn(3)], m.Intn(4), m.Intn(3), m.Intn(4)))
	}
	return o
}

func TestP1AnyNumbers(t *testing.T) {
	m := maker{rand.New(rand.NewSource(143))}
	for range 60000 {
		checkPlain(t, m.wild())
	}
}

func TestP14_2AnyModuleWithAnotherName(t *testing.T) {
	m := maker{rand.New(rand.NewSource(144))}
	for range 3000 {
		o := m.right()
		want, _ := Refs(o)
		o.Key = m.Uint32()
		for _, name := range []string{"m", "N8", "N9", "n0", "Q" + strings.Repeat("q", m.Intn(16))} {
			o.Name = name
			checkMay(t, o)
			if refs, ok := Refs(o); !ok || !sameRefs(refs, want) {
				t.Fatalf("with the name %q Refs = %v, want %v", name, refs, want)
			}
		}
		for i := range 10 {
			o.Name = "N" + strconv.Itoa(i)
			checkOne(t, o, i >= len(o.Imports), 1)
		}
	}
}
