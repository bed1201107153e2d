package table

import (
	"dowel/api"
	"math"
	"slices"
	"strconv"
	"testing"
)

func TestP18_1Example(t *testing.T) {
	tab, p := made(t, 16)
	add(t, tab, p, full("A", 1), full("B", 2, "A"))
	checkRemove(t, tab, p, "A", false)
	if got := tab.Names(); !slices.Equal(got, []string{"A", "B"}) {
		t.Errorf("Names() = %q", got)
	}
	checkRemove(t, tab, p, "B", true)
	checkRemove(t, tab, p, "A", true)
	if got := tab.Names(); len(got) != 0 {
		t.Errorf("Names() = %q", got)
	}
}

func TestP18_1RoomOfANewTable(t *testing.T) {
	want := map[int]int{math.MinInt: 0, -16: 0, -1: 0, 0: 0, 1: 1, 2: 2, 15: 15, 16: 16, 17: 16, 32: 16, math.MaxInt: 16}
	for most, room := range want {
		tab := New(most)
		if tab.Room() != room || len(tab.Names()) != 0 {
			t.Errorf("New(%d): Room() = %d, Names() = %q, want room for %d", most, tab.Room(), tab.Names(), room)
		}
	}
	for _, most := range far {
		tab, p := made(t, most)
		checkTold(t, tab, p)
	}
}

// So many can be added as there is room for, and no more.
func TestP18_1NoRoom(t *testing.T) {
	for _, most := range append([]int{-1, 0, 1, 2, 3, 15, 16, 17}, far...) {
		tab, p := made(t, most)
		for n := range p.most {
			add(t, tab, p, full("M"+strconv.Itoa(n), n))
		}
		if tab.Room() != 0 || len(tab.Names()) != min(max(most, 0), 16) {
			t.Fatalf("New(%d) had room for %q, and has for %d", most, tab.Names(), tab.Room())
		}
		refuse(t, tab, p, api.ErrTable, full("Last", 20))
		refuse(t, tab, p, api.ErrTable, Module{})
		if p.most > 0 {
			checkRemove(t, tab, p, "M0", true)
			add(t, tab, p, full("Last", 20))
			refuse(t, tab, p, api.ErrTable, full("M0", 20))
		}
	}
}

func TestP18_1RoomForNone(t *testing.T) {
	tab, p := made(t, 0)
	for _, m := range []Module{{}, bare("A"), full("A", 1, "B"), bare("A", "A"), bare("", "")} {
		refuse(t, tab, p, api.ErrTable, m)
		checkRemove(t, tab, p, m.Name, false)
	}
}

// Each of the three errors alone, any two of them, all three: the list's first one stands.
func TestR1WhichErrorStands(t *testing.T) {
	for _, noRoom := range []bool{false, true} {
		for _, isThere := range []bool{false, true} {
			for _, isMissing := range []bool{false, true} {
				tab, p := made(t, 3)
				add(t, tab, p, full("A", 1), full("B", 2, "A"))
				m, want := full("C", 3, "B"), api.Code(0)
				if isMissing {
					m.Imports, want = []string{"B", "None"}, api.ErrNone
				}
				if isThere {
					m.Name, want = "B", api.ErrArg
				}
				if noRoom {
					add(t, tab, p, full("Third", 4))
					want = api.ErrTable
				}
				if got := checkAdd(t, tab, p, m); got != want {
					t.Errorf("no room %v, name there %v, import missing %v: %v, want %v", noRoom, isThere, isMissing, got, want)
				}
			}
		}
	}
}

func TestP18_1NameThatIsThere(t *testing.T) {
	tab, p := made(t, 16)
	add(t, tab, p, full("A", 1), full("B", 2, "A"), full("C", 3))
	for _, name := range []string{"A", "B", "C"} {
		refuse(t, tab, p, api.ErrArg, full(name, 9))
		refuse(t, tab, p, api.ErrArg, full(name, 9, "A", "C"))
		refuse(t, tab, p, api.ErrArg, full(name, 9, name))
		refuse(t, tab, p, api.ErrArg, bare(name))
	}
	refuse(t, tab, p, api.ErrArg, full("A", 1))
}

// A missing import is one at any place among those that are there.
func TestP18_1ImportThatIsNotThere(t *testing.T) {
	tab, p := made(t, 16)
	refuse(t, tab, p, api.ErrNone, full("A", 1, "B"))
	add(t, tab, p, full("A", 1), full("B", 2))
	for _, imports := range [][]string{{"C"}, {"A", "B", "C"}, {"A", "C", "B"}, {"C", "A", "B"}, {"C", "C"}, {""}, {"A", ""}, {"a"}, {"A", "A "}} {
		refuse(t, tab, p, api.ErrNone, full("M", 3, imports...))
	}
	add(t, tab, p, full("M", 3, "A", "B"))
}

func TestP18_1ImportOfItself(t *testing.T) {
	tab, p := made(t, 16)
	add(t, tab, p, full("B", 2))
	refuse(t, tab, p, api.ErrNone, full("A", 1, "A"))
	refuse(t, tab, p, api.ErrNone, full("A", 1, "B", "A"))
	refuse(t, tab, p, api.ErrNone, bare("", ""))
	add(t, tab, p, full("A", 1, "B"))
	refuse(t, tab, p, api.ErrArg, full("A", 1, "A"))
}

func TestP18_1ImportTwice(t *testing.T) {
	tab, p := made(t, 16)
	add(t, tab, p, full("A", 1), full("Other", 4), full("B", 2, "A", "A"))
	if got := tab.Refs("A"); got != 1 {
		t.Errorf("Refs of a name that one imports twice = %d", got)
	}
	add(t, tab, p, full("C", 3, "A", "Other", "A", "B", "A"))
	if a, b, other := tab.Refs("A"), tab.Refs("B"), tab.Refs("Other"); a != 2 || b != 1 || other != 1 {
		t.Errorf("Refs = %d, %d, %d", a, b, other)
	}
	checkRemove(t, tab, p, "C", true)
	checkRemove(t, tab, p, "A", false)
	checkRemove(t, tab, p, "B", true)
	checkRemove(t, tab, p, "A", true)
}

func TestP18_1ImportThatIsGone(t *testing.T) {
	tab, p := made(t, 16)
	add(t, tab, p, full("A", 1), full("B", 2))
	checkRemove(t, tab, p, "A", true)
	refuse(t, tab, p, api.ErrNone, full("C", 3, "A"))
	refuse(t, tab, p, api.ErrNone, full("C", 3, "B", "A"))
	add(t, tab, p, full("A", 5, "B"))
	add(t, tab, p, full("C", 3, "A"))
	checkRemove(t, tab, p, "A", false)
	if got := tab.Names(); !slices.Equal(got, []string{"B", "A", "C"}) {
		t.Errorf("Names() = %q", got)
	}
}

// A table takes any names, and tells them apart by all their bytes.
func TestP18_1AnyNames(t *testing.T) {
	names := []string{"", "List", "list", "LIST", "Lisu", "Lis", "List ", "Lists", "Ä", "A\u0308", "\xc3", "\xff", "\x00", "\x00\x00", "A\x00", "A\x01"}
	tab, p := made(t, 16)
	for i, s := range names {
		refuse(t, tab, p, api.ErrNone, full("M", 30, s))
		add(t, tab, p, full(s, i, names[:i]...))
	}
	for i, s := range names {
		if got := tab.Refs(s); got != len(names)-1-i {
			t.Errorf("Refs(%q) = %d, want %d", s, got, len(names)-1-i)
		}
		checkRemove(t, tab, p, s, i == len(names)-1)
	}
	for i, s := range names[:len(names)-1] {
		refuse(t, tab, p, api.ErrArg, full(s, i+1))
	}
	for _, s := range slices.Backward(names[:len(names)-1]) {
		checkRemove(t, tab, p, s, true)
	}
	checkTold(t, tab, p, names...)
}

// Each field is told as it was added.
func TestP18_1FindTellsEachField(t *testing.T) {
	tab, p := made(t, 16)
	add(t, tab, p, full("A", 1))
	add(t, tab, p, full("B", 2, "A"))
	m, ok := tab.Find("B")
	if !ok || m.Name != "B" || m.Key != 9 || m.Base != 308 || m.Size != 82 || !slices.Equal(m.Imports, []string{"A"}) {
		t.Fatalf("Find = %v, %v", m, ok)
	}
	z := m.Zone
	if z.Base != 308 || z.Data != 328 || z.Read != 348 || z.End != 388 || !slices.Equal(z.Ptrs, []int{308, 316}) || !slices.Equal(z.Procs, []int{312}) {
		t.Errorf("Zone = %v", z)
	}
	if l := m.Exports; len(l) != 4 || l[0].Kind != api.Proc || l[0].At != 352 || len(l[0].Line) != 0 || l[1].Kind != api.Rec || l[1].At != 332 || !slices.Equal(l[1].Line, []int{30, 332}) || l[2].Kind != api.Var || !slices.Equal(l[3].Line, []int{336}) {
		t.Errorf("Exports = %v", l)
	}
	if !slices.Equal(m.Cmds, []api.Entry{{Name: "Run", At: 352}, {Name: "Stop2", At: 356}}) {
		t.Errorf("Cmds = %v", m.Cmds)
	}
}

// A table takes any numbers: what they mean is no business of it.
func TestP18_1AnyNumbers(t *testing.T) {
	tab, p := made(t, 16)
	for i, n := range far {
		m := full("M"+strconv.Itoa(i), 1)
		m.Key, m.Base, m.Size = uint32(n), n, -n
		m.Zone.Base, m.Zone.Data, m.Zone.Read, m.Zone.End = n, -n, n+1, n-1
		m.Zone.Ptrs, m.Zone.Procs = []int{n, n, -1}, []int{-n, n}
		m.Exports = []Export{{n, -n, []int{n, n}}, {-1, n, []int{n, 0, 1, 2, 3, 4, 5}}, {api.Proc, 0, []int{n}}}
		m.Cmds = []api.Entry{{Name: "", At: n}, {Name: "", At: n}, {Name: "\xff", At: -1}}
		add(t, tab, p, m)
	}
}

func TestP18_1FindWhatIsNotThere(t *testing.T) {
	tab, p := made(t, 16)
	checkTold(t, tab, p, "A", "B")
	add(t, tab, p, full("A", 1), full("B", 2))
	checkRemove(t, tab, p, "A", true)
	for _, s := range append([]string{"A", "b", "C", "BB"}, strange...) {
		if m, ok := tab.Find(s); ok || !isZero(m) {
			t.Errorf("Find(%q) = %v, %v", s, m, ok)
		}
	}
}

// The empty name is no name of a zero module, as long as that isn't there.
func TestP18_1EmptyName(t *testing.T) {
	tab, p := made(t, 16)
	checkRemove(t, tab, p, "", false)
	add(t, tab, p, Module{})
	if m, ok := tab.Find(""); !ok || !isZero(m) {
		t.Errorf("Find of the empty name = %v, %v", m, ok)
	}
	refuse(t, tab, p, api.ErrArg, Module{})
	add(t, tab, p, bare("A", ""))
	checkRemove(t, tab, p, "", false)
	checkRemove(t, tab, p, "A", true)
	checkRemove(t, tab, p, "", true)
	checkRemove(t, tab, p, "", false)
}

func TestP18_1Refs(t *testing.T) {
	tab, p := made(t, 16)
	add(t, tab, p, bare("A"))
	for n := range 15 {
		if got := tab.Refs("A"); got != n {
			t.Errorf("with %d importers Refs = %d", n, got)
		}
		add(t, tab, p, bare("M"+strconv.Itoa(n), "A"))
	}
	// What only imports an importer is none itself.
	for n := range 15 {
		checkRemove(t, tab, p, "A", false)
		checkRemove(t, tab, p, "M"+strconv.Itoa(n), true)
		if got := tab.Refs("A"); got != 14-n {
			t.Errorf("with %d importers Refs = %d", 14-n, got)
		}
	}
	add(t, tab, p, bare("B", "A"), bare("C", "B"), bare("D", "C"))
	for _, s := range []string{"A", "B", "C"} {
		if got := tab.Refs(s); got != 1 {
			t.Errorf("Refs(%q) = %d, want 1", s, got)
		}
	}
	if tab.Refs("D") != 0 || tab.Refs("E") != 0 {
		t.Errorf("Refs = %d, %d, want none", tab.Refs("D"), tab.Refs("E"))
	}
}

// An Add that is an error makes no reference.
func TestP18_1RefsOfWhatWasRefused(t *testing.T) {
	tab, p := made(t, 3)
	add(t, tab, p, bare("A"), bare("B"))
	refuse(t, tab, p, api.ErrNone, bare("C", "A", "None"))
	refuse(t, tab, p, api.ErrArg, bare("B", "A"))
	add(t, tab, p, bare("C"))
	refuse(t, tab, p, api.ErrTable, bare("D", "A", "None"))
	if tab.Refs("A") != 0 || tab.Refs("None") != 0 {
		t.Errorf("Refs = %d, %d, want none", tab.Refs("A"), tab.Refs("None"))
	}
	checkRemove(t, tab, p, "A", true)
}

// The others stay in their order, whichever goes.
func TestP18_1OrderBehindARemove(t *testing.T) {
	names := []string{"E", "A", "D", "B", "C"}
	for gone := range names {
		tab, p := made(t, 5)
		for i, s := range names {
			add(t, tab, p, full(s, i))
		}
		checkRemove(t, tab, p, names[gone], true)
		want := slices.Concat(names[:gone], names[gone+1:])
		if got := tab.Names(); !slices.Equal(got, want) {
			t.Errorf("without %q Names() = %q", names[gone], got)
		}
		checkRemove(t, tab, p, names[gone], false)
		add(t, tab, p, full(names[gone], 9))
		if got := tab.Names(); !slices.Equal(got, append(want, names[gone])) {
			t.Errorf("with %q again Names() = %q", names[gone], got)
		}
	}
}

func TestP18_1RemoveWhatIsNotThere(t *testing.T) {
	tab, p := made(t, 16)
	for range 2 {
		for _, s := range strange {
			checkRemove(t, tab, p, s, false)
		}
		checkRemove(t, tab, p, "A", false)
		add(t, tab, p, full("A", 1))
		checkRemove(t, tab, p, "A", true)
		checkRemove(t, tab, p, "A", false)
	}
}

// One that was imported can go as soon as the last importer is gone, in whatever order those go.
func TestP18_1RemoveWhatNoneImportsAnyMore(t *testing.T) {
	for _, order := range [][]string{{"B", "C", "D"}, {"D", "C", "B"}, {"C", "B", "D"}, {"D", "B", "C"}} {
		tab, p := made(t, 16)
		add(t, tab, p, full("A", 1), full("B", 2, "A"), full("C", 3, "A"), full("D", 4, "A"))
		for _, s := range order {
			checkRemove(t, tab, p, "A", false)
			checkRemove(t, tab, p, s, true)
		}
		checkRemove(t, tab, p, "A", true)
	}
}

// What imports others goes first; the same table is then filled again.
func TestP18_1FilledAndEmptied(t *testing.T) {
	for _, most := range []int{1, 2, 7, 15, 16, 17} {
		tab, p := made(t, most)
		for round := range 4 {
			for n := range p.most {
				add(t, tab, p, full("M"+strconv.Itoa(n+round), n, tab.Names()...))
			}
			refuse(t, tab, p, api.ErrTable, full("M", 1))
			for _, s := range slices.Backward(tab.Names()) {
				checkRemove(t, tab, p, s, true)
			}
			if tab.Room() != p.most || len(tab.Names()) != 0 {
				t.Fatalf("emptied: room for %d, names %q", tab.Room(), tab.Names())
			}
		}
	}
}

// Tables know nothing of each other.
func TestP18_1SeveralTables(t *testing.T) {
	a, p := made(t, 2)
	b, q := made(t, 3)
	add(t, a, p, full("A", 1))
	refuse(t, b, q, api.ErrNone, full("B", 2, "A"))
	add(t, b, q, full("A", 5))
	add(t, b, q, full("B", 2, "A"))
	checkRemove(t, a, p, "A", true)
	checkTold(t, b, q)
	checkTold(t, a, p)
	checkRemove(t, b, q, "A", false)
}
