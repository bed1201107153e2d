package table

import (
	"dowel/api"
	"dowel/zone"
	"errors"
	"math"
	"slices"
	"strconv"
	"testing"
)

// full is a module with something in each field and each list, its numbers told apart by n.
func full(name string, n int, imports ...string) Module {
	return Module{
		Name: name, Key: uint32(n) + 7, Base: 300 + 4*n, Size: 80 + n,
		Zone: zone.Zone{
			Base: 300 + 4*n, Data: 320 + 4*n, Read: 340 + 4*n, End: 380 + 4*n,
			Ptrs: []int{300 + 4*n, 308 + 4*n}, Procs: []int{304 + 4*n},
		},
		Imports: imports,
		Exports: []Export{
			{Kind: api.Proc, At: 344 + 4*n},
			{Kind: api.Rec, At: 324 + 4*n, Line: []int{28 + n, 324 + 4*n}},
			{Kind: api.Var, At: 304 + 4*n, Line: []int{}},
			{Kind: api.Rec, At: 328 + 4*n, Line: []int{328 + 4*n}},
		},
		Cmds: []api.Entry{{Name: "Run", At: 344 + 4*n}, {Name: "Stop" + strconv.Itoa(n), At: 348 + 4*n}},
	}
}

// bare is a module with nothing but its name and its imports.
func bare(name string, imports ...string) Module { return Module{Name: name, Imports: imports} }

// numbers is a list's own copy, with room behind its end.
func numbers(l []int) []int {
	out := make([]int, 0, len(l)+3)
	for _, n := range l {
		out = append(out, n)
	}
	return out
}

// again is the same module in memory of its own, with room behind the end of each list.
func again(m Module) Module {
	out := m
	out.Zone.Ptrs, out.Zone.Procs = numbers(m.Zone.Ptrs), numbers(m.Zone.Procs)
	out.Imports = make([]string, 0, len(m.Imports)+3)
	for _, s := range m.Imports {
		out.Imports = append(out.Imports, s)
	}
	out.Exports = make([]Export, 0, len(m.Exports)+3)
	for _, e := range m.Exports {
		out.Exports = append(out.Exports, Export{e.Kind, e.At, numbers(e.Line)})
	}
	out.Cmds = make([]api.Entry, 0, len(m.Cmds)+3)
	for _, c := range m.Cmds {
		out.Cmds = append(out.Cmds, c)
	}
	return out
}

func sameExport(a, b Export) bool {
	return a.Kind == b.Kind && a.At == b.At && slices.Equal(a.Line, b.Line)
}

func sameZone(a, b zone.Zone) bool {
	edges := a.Base == b.Base && a.Data == b.Data && a.Read == b.Read && a.End == b.End
	return edges && slices.Equal(a.Ptrs, b.Ptrs) && slices.Equal(a.Procs, b.Procs)
}

// same tells whether all fields are; a list that is nil, and one that is empty, are.
func same(a, b Module) bool {
	plain := a.Name == b.Name && a.Key == b.Key && a.Base == b.Base && a.Size == b.Size && sameZone(a.Zone, b.Zone)
	return plain && slices.Equal(a.Imports, b.Imports) && slices.EqualFunc(a.Exports, b.Exports, sameExport) && slices.Equal(a.Cmds, b.Cmds)
}

func isZero(m Module) bool {
	lists := len(m.Imports) + len(m.Exports) + len(m.Cmds) + len(m.Zone.Ptrs) + len(m.Zone.Procs)
	return lists == 0 && same(m, Module{})
}

// spoil changes all that a module's lists have room for.
func spoil(m Module) {
	for _, l := range [][]int{m.Zone.Ptrs, m.Zone.Procs} {
		fill(l, 77)
	}
	for _, e := range m.Exports {
		fill(e.Line, 78)
	}
	fill(m.Imports, "Spoilt")
	fill(m.Exports, Export{9, 9, []int{9}})
	fill(m.Cmds, api.Entry{Name: "Spoilt", At: 9})
}

// fill changes all that a list has room for.
func fill[E any](l []E, with E) {
	l = l[:cap(l)]
	for i := range l {
		l[i] = with
	}
}

// plain is a table by the chapter's words: its modules, in order.
type plain struct {
	most int
	list []Module
}

func (p *plain) at(s string) int {
	for i, m := range p.list {
		if m.Name == s {
			return i
		}
	}
	return -1
}

// add is the number of Add's error, 0 if there is none.
func (p *plain) add(m Module) api.Code {
	if len(p.list) >= p.most {
		return api.ErrTable
	}
	if p.at(m.Name) >= 0 {
		return api.ErrArg
	}
	for _, s := range m.Imports {
		if p.at(s) < 0 {
			return api.ErrNone
		}
	}
	p.list = append(p.list, again(m))
	return 0
}

func (p *plain) refs(s string) int {
	users := map[int]int{}
	for i, m := range p.list {
		for _, imported := range m.Imports {
			if imported == s {
				users[i] = 1
			}
		}
	}
	return len(users)
}

func (p *plain) remove(s string) bool {
	gone := p.at(s)
	if gone < 0 || p.refs(s) != 0 {
		return false
	}
	var left []Module
	for i, m := range p.list {
		if i != gone {
			left = append(left, m)
		}
	}
	p.list = left
	return true
}

func (p *plain) names() []string {
	var l []string
	for _, m := range p.list {
		l = append(l, m.Name)
	}
	return l
}

// strange are names that no test adds, but where it says so.
var strange = []string{"", "a", "A ", " A", "A\x00", "AA", "Ä", "\xff", "None", "A0", "ABCDEFGHIJKLMNOPQ"}

// checkTold asks a table for all that it tells, and holds it against a plain one.
func checkTold(t *testing.T, tab *Table, p *plain, more ...string) {
	t.Helper()
	if got := tab.Names(); !slices.Equal(got, p.names()) {
		t.Fatalf("Names() = %q, want %q", got, p.names())
	}
	if got := tab.Room(); got != p.most-len(p.list) {
		t.Fatalf("Room() = %d, want %d, with %q", got, p.most-len(p.list), p.names())
	}
	for _, s := range slices.Concat(p.names(), strange, more) {
		checkName(t, tab, p, s)
	}
	checkImports(t, tab)
}

func checkName(t *testing.T, tab *Table, p *plain, s string) {
	t.Helper()
	if got := tab.Refs(s); got != p.refs(s) {
		t.Fatalf("Refs(%q) = %d, want %d, with %q", s, got, p.refs(s), p.names())
	}
	got, ok := tab.Find(s)
	at := p.at(s)
	if at < 0 {
		if ok || !isZero(got) {
			t.Fatalf("Find(%q) = %v, %v, want a zero one, false", s, got, ok)
		}
		return
	}
	if !ok || !same(got, p.list[at]) {
		t.Fatalf("Find(%q) = %v, %v, want %v", s, got, ok, p.list[at])
	}
}

// checkImports is P18.3 of what a table tells itself.
func checkImports(t *testing.T, tab *Table) {
	t.Helper()
	for _, s := range tab.Names() {
		m, ok := tab.Find(s)
		if !ok {
			t.Fatalf("%q is among the names, but isn't found", s)
		}
		for _, imported := range m.Imports {
			if _, ok := tab.Find(imported); !ok {
				t.Fatalf("%q imports %q, which isn't there", s, imported)
			}
		}
	}
}

// made is a new table, and a plain one.
func made(t *testing.T, most int) (*Table, *plain) {
	t.Helper()
	tab := New(most)
	if tab == nil {
		t.Fatalf("New(%d) is nil", most)
	}
	p := &plain{most: most}
	if most > 16 {
		p.most = 16
	}
	if most < 0 {
		p.most = 0
	}
	return tab, p
}

// checkAdd adds to both, and holds the error, and what is told then, against the plain one.
func checkAdd(t *testing.T, tab *Table, p *plain, m Module) api.Code {
	t.Helper()
	want := p.add(m)
	before := again(m)
	err := tab.Add(m)
	if !same(m, before) {
		t.Fatalf("Add changed %v to %v", before, m)
	}
	checkCode(t, m.Name, err, want)
	checkTold(t, tab, p, append([]string{m.Name}, m.Imports...)...)
	return want
}

func checkCode(t *testing.T, name string, err error, want api.Code) {
	t.Helper()
	if want == 0 {
		if err != nil {
			t.Fatalf("Add of %q: %v", name, err)
		}
		return
	}
	if err == nil {
		t.Fatalf("Add of %q was done, want %v", name, want)
	}
	if code, itself := err.(api.Code); !itself || code != want || !errors.Is(err, want) {
		t.Fatalf("Add of %q: %v, want %v itself", name, err, want)
	}
}

// add adds to both what may be added.
func add(t *testing.T, tab *Table, p *plain, l ...Module) {
	t.Helper()
	for _, m := range l {
		if code := checkAdd(t, tab, p, m); code != 0 {
			t.Fatalf("the plain table tells %v of %q", code, m.Name)
		}
	}
}

// refuse adds what may not be added.
func refuse(t *testing.T, tab *Table, p *plain, want api.Code, m Module) {
	t.Helper()
	if code := checkAdd(t, tab, p, m); code != want {
		t.Fatalf("the plain table tells %v of %q, want %v", code, m.Name, want)
	}
}

// checkRemove removes from both, and asks for what is wanted.
func checkRemove(t *testing.T, tab *Table, p *plain, s string, want bool) {
	t.Helper()
	if plain := p.remove(s); plain != want {
		t.Fatalf("the plain table tells %v of Remove(%q)", plain, s)
	}
	if got := tab.Remove(s); got != want {
		t.Fatalf("Remove(%q) = %v, want %v", s, got, want)
	}
	checkTold(t, tab, p, s)
}

// far are numbers at the edges of an int, and far beyond all limits.
var far = []int{math.MinInt, math.MinInt + 1, math.MinInt32, -1 << 20, 1 << 20, math.MaxInt32, 1 << 32, 1<<32 + 1, math.MaxInt - 1, math.MaxInt}
