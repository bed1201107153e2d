package table

import (
	"dowel/api"
	"dowel/zone"
	"math"
	"slices"
	"strconv"
	"testing"
)

// What is handed in stays, also behind the ends of its lists within their room, whatever the answer is.
func TestP18_2WhatIsHandedInStays(t *testing.T) {
	for _, most := range []int{0, 1, 16} {
		for _, m := range []Module{full("A", 1), full("A", 2, "A"), full("B", 3, "A", "None"), full("B", 4, "A", "A"), {}} {
			tab := New(most)
			tab.Add(full("A", 9))
			given, before := again(m), again(m)
			tab.Add(given)
			tab.Add(given)
			if !same(given, before) || !same(widened(given), widened(before)) {
				t.Errorf("Add changed %v to %v", before, given)
			}
			tab.Find(m.Name)
			tab.Remove(m.Name)
			if !same(given, before) || !same(widened(given), widened(before)) {
				t.Errorf("later %v became %v", before, given)
			}
		}
	}
}

// widened is a module with all that its lists have room for; the lists that again makes have room for three more.
func widened(m Module) Module {
	m.Imports, m.Cmds = m.Imports[:len(m.Imports)+3], m.Cmds[:len(m.Cmds)+3]
	m.Zone.Ptrs, m.Zone.Procs = m.Zone.Ptrs[:len(m.Zone.Ptrs)+3], m.Zone.Procs[:len(m.Zone.Procs)+3]
	exports := slices.Clone(m.Exports)
	for i, e := range exports {
		exports[i].Line = e.Line[:len(e.Line)+3]
	}
	m.Exports = append(exports, m.Exports[len(m.Exports):len(m.Exports)+3]...)
	return m
}

// A change of what was handed in turns nothing that is told.
func TestP18_2WhatIsHandedInIsNotKept(t *testing.T) {
	tab, p := made(t, 16)
	add(t, tab, p, full("A", 1), full("B", 2))
	for i, m := range []Module{full("C", 3, "A", "B"), full("D", 4, "C"), bare("E"), {Exports: []Export{{Line: []int{1}}}}} {
		given := again(m)
		add(t, tab, p, given)
		spoil(given)
		checkTold(t, tab, p, "Spoilt")
		given = again(m)
		given.Name = "M" + strconv.Itoa(i)
		add(t, tab, p, given)
		given.Exports = append(given.Exports, Export{})
		given.Imports = append(given.Imports, "Spoilt")
		given.Zone.Ptrs = append(given.Zone.Ptrs, 5)
		checkTold(t, tab, p, "Spoilt")
		spoil(given)
		checkTold(t, tab, p, "Spoilt")
	}
	checkRemove(t, tab, p, "A", false)
}

// One list may be handed in twice, in several modules too: each has its own.
func TestP18_2OneListOfSeveralModules(t *testing.T) {
	places := []int{300, 304, 308}
	imports := []string{"A"}
	tab, p := made(t, 16)
	add(t, tab, p, full("A", 1))
	for n := range 3 {
		m := Module{Name: "M" + strconv.Itoa(n), Imports: imports, Zone: zone.Zone{Ptrs: places, Procs: places}}
		m.Exports = []Export{{api.Rec, 300, places}, {api.Rec, 304, places}}
		add(t, tab, p, m)
	}
	m, _ := tab.Find("M1")
	fill(m.Zone.Ptrs, 9)
	if !slices.Equal(m.Zone.Procs, []int{300, 304, 308}) || !slices.Equal(m.Exports[0].Line, m.Zone.Procs) || !slices.Equal(m.Exports[1].Line, m.Zone.Procs) {
		t.Fatalf("with its Ptrs the module became %v", m)
	}
	fill(m.Exports[0].Line, 8)
	if !slices.Equal(m.Zone.Procs, []int{300, 304, 308}) || !slices.Equal(m.Exports[1].Line, m.Zone.Procs) {
		t.Fatalf("with a line the module became %v", m)
	}
	checkTold(t, tab, p)
	fill(places, 7)
	fill(imports, "Spoilt")
	checkTold(t, tab, p, "Spoilt")
}

// A change of what was told turns nothing that is told later, nor what another Find told.
func TestP18_2WhatIsToldIsNewMemory(t *testing.T) {
	tab, p := made(t, 16)
	add(t, tab, p, full("A", 1), full("B", 2, "A"), bare("C", "A", "B"), full("D", 4, "C"))
	for i, s := range p.names() {
		first, _ := tab.Find(s)
		second, _ := tab.Find(s)
		_ = append(first.Imports, "Spoilt", "Spoilt")
		_ = append(first.Exports, Export{}, Export{})
		_ = append(first.Cmds, api.Entry{}, api.Entry{})
		_ = append(append(first.Zone.Ptrs, 5), append(first.Zone.Procs, 6)...)
		spoil(first)
		if !same(second, p.list[i]) {
			t.Fatalf("with one Find's answer that of another became %v", second)
		}
		checkTold(t, tab, p, "Spoilt")
		spoil(second)
		checkTold(t, tab, p, "Spoilt")
	}
	checkRemove(t, tab, p, "A", false)
}

func TestP18_2NamesAreNewMemory(t *testing.T) {
	tab, p := made(t, 16)
	for n := range 4 {
		names, others := tab.Names(), tab.Names()
		_ = append(names, "Spoilt", "Spoilt")
		fill(names, "Spoilt")
		if !slices.Equal(others, p.names()) {
			t.Fatalf("with some names others became %q", others)
		}
		checkTold(t, tab, p, "Spoilt")
		add(t, tab, p, full("M"+strconv.Itoa(n), n))
		if !slices.Equal(others, p.names()[:n]) {
			t.Fatalf("with an Add names that were told became %q", others)
		}
	}
	names := tab.Names()
	checkRemove(t, tab, p, "M1", true)
	if !slices.Equal(names, []string{"M0", "M1", "M2", "M3"}) {
		t.Fatalf("with a Remove names that were told became %q", names)
	}
}

// What was told stays as it was, whatever is done to the table.
func TestP18_2WhatWasToldStays(t *testing.T) {
	tab, p := made(t, 4)
	add(t, tab, p, full("A", 1), full("B", 2, "A"), full("C", 3, "A"))
	var told []Module
	for _, s := range p.names() {
		m, _ := tab.Find(s)
		told = append(told, m)
	}
	checkRemove(t, tab, p, "B", true)
	checkRemove(t, tab, p, "C", true)
	add(t, tab, p, full("C", 8), full("B", 9, "C"), full("D", 10, "B"))
	for i, want := range []Module{full("A", 1), full("B", 2, "A"), full("C", 3, "A")} {
		if !same(told[i], want) {
			t.Errorf("what was told of %q became %v", want.Name, told[i])
		}
	}
}

// Lists of none are told as lists of none, be they nil, empty, or empty with room.
func TestP18_2ListsOfNone(t *testing.T) {
	room := full("Room", 3, "A")
	empty := Module{Name: "Empty", Imports: room.Imports[:0], Exports: room.Exports[:0], Cmds: room.Cmds[:0]}
	empty.Zone.Ptrs, empty.Zone.Procs = room.Zone.Ptrs[:0], room.Zone.Procs[:0]
	lines := Module{Name: "Lines", Exports: []Export{{api.Rec, 4, nil}, {api.Rec, 8, []int{}}, {api.Rec, 12, room.Exports[1].Line[:0]}}}
	tab, p := made(t, 16)
	add(t, tab, p, bare("Bare"), empty, lines)
	for _, s := range []string{"Empty", "Lines", "Bare"} {
		m, _ := tab.Find(s)
		_ = append(m.Imports, "Spoilt")
		_ = append(m.Exports, Export{9, 9, nil})
		_ = append(m.Cmds, api.Entry{Name: "Spoilt"})
		_ = append(append(m.Zone.Ptrs, 9), append(m.Zone.Procs, 9)...)
		for _, e := range m.Exports {
			_ = append(e.Line, 9, 9)
		}
		spoil(m)
		checkTold(t, tab, p)
	}
	if !same(room, full("Room", 3, "A")) {
		t.Fatalf("with what was told lists became %v", room)
	}
}

// With an error, and with false, all is as it was; what is told beside a false is zero.
func TestR3ZeroAndUnturned(t *testing.T) {
	tab, p := made(t, 3)
	add(t, tab, p, full("A", 1), full("B", 2, "A"))
	for range 3 {
		refuse(t, tab, p, api.ErrArg, full("A", 7))
		refuse(t, tab, p, api.ErrNone, full("C", 7, "A", "D"))
		checkRemove(t, tab, p, "A", false)
		checkRemove(t, tab, p, "D", false)
		if m, ok := tab.Find("C"); ok || !isZero(m) || m.Imports != nil || m.Exports != nil || m.Cmds != nil {
			t.Fatalf("Find = %v, %v", m, ok)
		}
	}
	add(t, tab, p, full("C", 3))
	for range 3 {
		refuse(t, tab, p, api.ErrTable, full("D", 7))
		if tab.Room() != 0 {
			t.Fatalf("Room() = %d", tab.Room())
		}
	}
}

// None panics, and each ends, whatever it is given.
func TestP1AnyArguments(t *testing.T) {
	for _, most := range append([]int{-2, -1, 0, 1, 2, 16, 17}, far...) {
		tab, p := made(t, most)
		for _, m := range []Module{{}, bare("\xff", ""), bare("A", "\xff", "A"), bare("A", "A"), full("Ä", math.MaxInt), full("a", math.MinInt, "Ä")} {
			checkAdd(t, tab, p, m)
		}
		for _, s := range slices.Concat([]string{"a", "A", "Ä", "\xff", ""}, strange) {
			checkRemove(t, tab, p, s, p.at(s) >= 0 && p.refs(s) == 0)
		}
	}
}

// Long names, and long lists, are no reason to take long.
func TestP1LongLists(t *testing.T) {
	const many = 1 << 20
	long := string(slices.Repeat([]byte("A"), many))
	tab, p := made(t, 16)
	add(t, tab, p, bare(long), bare(long[1:]))
	m := full("Long", 1, slices.Repeat([]string{long, long[1:]}, 1<<10)...)
	m.Exports = slices.Repeat([]Export{{api.Rec, 4, []int{1, 2}}}, 1<<16)
	m.Cmds = slices.Repeat(m.Cmds, 1<<16)
	m.Zone.Ptrs = slices.Repeat(m.Zone.Ptrs, 1<<16)
	add(t, tab, p, m)
	refuse(t, tab, p, api.ErrNone, bare("More", slices.Concat(m.Imports, []string{long[2:]})...))
	checkRemove(t, tab, p, long, false)
	checkRemove(t, tab, p, "Long", true)
	checkRemove(t, tab, p, long, true)
}
