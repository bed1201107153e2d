package unload

import (
	"dowel/api"
	"dowel/heap"
	"dowel/table"
	"dowel/zone"
	"regexp"
	"slices"
	"strings"
)

// unit is a file in plain words: what its module declares, and what its code does.
type unit struct {
	name        string
	key         uint32
	imports     []api.Import
	words       int   // of data, six or more
	ptrs, procs []int // of the first six
	text        int   // bytes
	extends     int   // by its number, the import whose type its own one extends; 0: none
	exports     int   // how many there are: its first instruction, its first six words, its type
	cmds        [2]script
	body        *script
	pad         int  // words of code behind
	broken      bool // the file is no object
}

// What a unit exports, by number.
const (
	procExport = 0
	wordExport = 1 // and on
	typeExport = 7
)

// script is code: words are to tell something, one behind the other, and then it ends.
type script struct {
	deeds []deed
	end   int // api.Done, api.Trapped or api.Fuel
}

// deed has a word tell something.
type deed struct {
	to, word  int // whose word, by its number among the imports (0: its own), and which
	what      int
	from, ent int // whose export, or whose text's byte; of a copy whose word
	far       int // so much more
}

// What a deed has a word tell.
const (
	nothing = iota
	aPlace
	aCopy
)

var cmdNames = [2]string{"Run", "Go"}

// steps are how many instructions a deed has; the last one is a store.
func (d deed) steps() int { return [3]int{3, 4, 5}[d.what] }

// size is how many instructions a script has.
func (s script) size() int {
	n := 1
	for _, d := range s.deeds {
		n += d.steps()
	}
	return n
}

func (x *source) script(s script) *source {
	for _, d := range s.deeds {
		x.ref(addresses, 1, d.to, wordExport+d.word)
		switch {
		case d.what == nothing:
			x.ins(api.Set, 2, 0, 0)
		case d.what == aCopy:
			x.ref(addresses, 2, d.from, wordExport+d.ent).ins(api.Load, 2, 2, 0).ins(api.More, 2, 2, d.far)
		case d.from != ownText && d.ent == typeExport:
			x.ref(types, 2, d.from, d.ent).ins(api.More, 2, 2, d.far)
		default:
			x.ref(addresses, 2, d.from, d.ent).ins(api.More, 2, 2, d.far)
		}
		x.ins(api.Store, 2, 1, 0)
	}
	switch s.end {
	case api.Trapped:
		return x.trap()
	case api.Fuel:
		return x.ins(api.Jump, 0, 0, -1)
	}
	return x.back()
}

// source is the unit's file.
func (u *unit) source() *source {
	x := module(u.name).key(u.key).data(u.words).text(strings.Repeat("t", u.text)).ptrs(u.ptrs...).procs(u.procs...)
	x.o.Types = []api.Type{{Size: 8, Base: -1}}
	if u.extends > 0 {
		x.o.Types[0].Mod, x.o.Types[0].Base = u.extends, typeExport
	}
	x.o.Imports = u.imports
	x.export(api.Proc, 0)
	for word := range 6 {
		x.export(api.Var, word)
	}
	x.export(api.Rec, 0)
	x.o.Exports = x.o.Exports[:u.exports]
	x.back()
	for i, s := range u.cmds {
		x.cmd(cmdNames[i]).script(s)
	}
	if u.body != nil {
		x.body().script(*u.body)
	}
	for range u.pad {
		x.back()
	}
	if u.broken {
		x.bytes = []byte{'D', 'W', 1}
	}
	return x
}

// parts tell where in a block the types, the text, the code begin, and how many bytes it has.
func (u *unit) parts() (types, text, code, size int) {
	types = 4 * u.words
	text = types + 16
	code = text + (u.text+3)/4*4
	size = code + 4*(1+u.cmds[0].size()+u.cmds[1].size()+u.pad)
	if u.body != nil {
		size += 4 * u.body.size()
	}
	return types, text, code, size
}

// need is one export that code needs of a module, by its number among the imports.
type need struct{ mod, ent int }

func (u *unit) needs() []need {
	scripts := u.cmds[:]
	if u.body != nil {
		scripts = append(slices.Clone(scripts), *u.body)
	}
	var l []need
	if u.extends > 0 {
		l = append(l, need{u.extends, typeExport})
	}
	for _, s := range scripts {
		for _, d := range s.deeds {
			l = append(l, need{d.to, wordExport + d.word})
			switch {
			case d.what == aCopy:
				l = append(l, need{d.from, wordExport + d.ent})
			case d.what == aPlace && d.from != ownText:
				l = append(l, need{d.from, d.ent})
			}
		}
	}
	return l
}

// isValid tells whether it may be a module: then it has all exports that it means itself.
func (u *unit) isValid() bool {
	return !u.broken && !slices.ContainsFunc(u.needs(), func(n need) bool { return n.mod == 0 && n.ent >= u.exports })
}

// laid is a unit's module that is loaded.
type laid struct {
	u    *unit
	base int
	data []uint32
	line []int // where the types lie that its own one extends, and that
}

// place is where an export lies.
func (m *laid) place(ent int) int {
	types, _, code, _ := m.u.parts()
	switch ent {
	case procExport:
		return m.base + code
	case typeExport:
		return m.base + types
	}
	return m.base + 4*(ent-wordExport)
}

// kind is a word's: 1 of Ptrs, 2 of Procs, 0 of neither.
func (m *laid) kind(word int) int {
	switch {
	case slices.Contains(m.u.ptrs, word):
		return 1
	case slices.Contains(m.u.procs, word):
		return 2
	}
	return 0
}

func (m *laid) zone() zone.Zone {
	types, _, code, size := m.u.parts()
	z := zone.Zone{Base: m.base, Data: m.base + types, Read: m.base + code, End: m.base + size}
	for _, word := range m.u.ptrs {
		z.Ptrs = append(z.Ptrs, m.base+4*word)
	}
	for _, word := range m.u.procs {
		z.Procs = append(z.Procs, m.base+4*word)
	}
	return z
}

// has tells whether its block has a place.
func (m *laid) has(at int) bool {
	_, _, _, size := m.u.parts()
	return at >= m.base && at < m.base+size
}

// world is a system in plain words.
type world struct {
	taken []bool // of each word of the memory; the heap's begin behind the stack
	most  int
	files map[string]*unit
	mods  []*laid // in the order in which they came
}

func worldOf(size, most int) *world {
	return &world{taken: make([]bool, size/4), most: most, files: map[string]*unit{}}
}

func (w *world) holes() []heap.Hole {
	var l []heap.Hole
	for i := 272 / 4; i < len(w.taken); i++ {
		if !w.taken[i] {
			l = append(l, heap.Hole{At: 4 * i, Size: 4})
		}
	}
	return joined(l)
}

// take takes the first hole's beginning that is so great; 0, if there is none.
func (w *world) take(size int) int {
	for _, x := range w.holes() {
		if x.Size >= size {
			w.mark(x.At, size, true)
			return x.At
		}
	}
	return 0
}

func (w *world) mark(at, size int, taken bool) {
	for i := range size / 4 {
		w.taken[at/4+i] = taken
	}
}

func (w *world) find(name string) *laid {
	for _, m := range w.mods {
		if m.u.name == name {
			return m
		}
	}
	return nil
}

func (w *world) names() []string {
	var l []string
	for _, m := range w.mods {
		l = append(l, m.u.name)
	}
	return l
}

// rising are all modules by where they lie.
func (w *world) rising() []*laid {
	l := slices.Clone(w.mods)
	slices.SortFunc(l, func(a, b *laid) int { return a.base - b.base })
	return l
}

func (w *world) zones() []zone.Zone {
	var l []zone.Zone
	for _, m := range w.rising() {
		l = append(l, m.zone())
	}
	return l
}

func (w *world) cells() []Cell {
	var l []Cell
	for _, m := range w.rising() {
		for kind, words := range [][]int{m.u.ptrs, m.u.procs} {
			for _, word := range words {
				l = append(l, Cell{m.base + 4*word, kind + 1, int(m.data[word])})
			}
		}
	}
	return l
}

// fits tells whether a cell of a kind may have a value.
func (w *world) fits(kind, value int) bool {
	if kind == 0 || value == 0 {
		return true
	}
	for _, m := range w.mods {
		if z := m.zone(); m.has(value) {
			return kind == 1 && value < z.Read || kind == 2 && value >= z.Read && value%4 == 0
		}
	}
	return false
}

// meant is a module by its number among another one's imports.
func (w *world) meant(m *laid, mod int) *laid {
	if mod == 0 {
		return m
	}
	return w.find(m.u.imports[mod-1].Name)
}

// value is what a deed has a word tell.
func (w *world) value(m *laid, d deed) uint32 {
	switch {
	case d.what == nothing:
		return 0
	case d.what == aCopy:
		return w.meant(m, d.from).data[d.ent] + uint32(d.far)
	case d.from == ownText:
		_, text, _, _ := m.u.parts()
		return uint32(m.base + text + d.ent + d.far)
	}
	return uint32(w.meant(m, d.from).place(d.ent) + d.far)
}

// run runs a module's script.
func (w *world) run(m *laid, s script, fuel int) api.Outcome {
	fuel = min(max(fuel, 0), 2000)
	steps := 0
	for _, d := range s.deeds {
		steps += d.steps()
		if steps > fuel {
			return api.Outcome{End: api.Fuel, Steps: fuel}
		}
		to, v := w.meant(m, d.to), w.value(m, d)
		if !w.fits(to.kind(d.word), int(v)) {
			return api.Outcome{End: api.Trapped, Trap: api.TrapPointer, Steps: steps - 1}
		}
		to.data[d.word] = v
	}
	switch {
	case s.end == api.Fuel || steps == fuel:
		return api.Outcome{End: api.Fuel, Steps: fuel}
	case s.end == api.Trapped:
		return api.Outcome{End: api.Trapped, Trap: api.TrapCode, Steps: steps}
	}
	return api.Outcome{End: api.Done, Steps: steps + 1}
}

func (w *world) call(name, cmd string, fuel int) (api.Outcome, error) {
	m, i := w.find(name), slices.Index(cmdNames[:], cmd)
	if m == nil || i < 0 {
		return api.Outcome{}, api.ErrNone
	}
	return w.run(m, m.u.cmds[i], fuel), nil
}

var aName = regexp.MustCompile(`^[a-zA-Z][a-zA-Z0-9]{0,15}$`)

// keyOf is the key of what is loaded, or stands in a list already.
func (w *world) keyOf(name string, list []*unit) (uint32, bool) {
	if m := w.find(name); m != nil {
		return m.u.key, true
	}
	for _, u := range list {
		if u.name == name {
			return u.key, true
		}
	}
	return 0, false
}

// resolve adds to a list what is to be loaded; way are those under way.
func (w *world) resolve(name string, list []*unit, way []string) ([]*unit, error) {
	if _, ok := w.keyOf(name, list); ok {
		return list, nil
	}
	u, there := w.files[name]
	switch {
	case slices.Contains(way, name):
		return nil, api.ErrCycle
	case len(way) > 8:
		return nil, api.ErrDepth
	case !aName.MatchString(name):
		return nil, api.ErrName
	case !there:
		return nil, api.ErrNone
	case !u.isValid():
		return nil, api.ErrForm
	}
	for _, i := range u.imports {
		var err error
		if list, err = w.resolve(i.Name, list, append(slices.Clone(way), name)); err != nil {
			return nil, err
		}
		if key, _ := w.keyOf(i.Name, list); key != i.Key {
			return nil, api.ErrKey
		}
	}
	return append(slices.Clone(list), u), nil
}

// one loads a unit whose imports are there.
func (w *world) one(u *unit, fuel int) (api.Outcome, error) {
	for _, n := range u.needs() {
		if n.mod > 0 && n.ent >= w.find(u.imports[n.mod-1].Name).u.exports {
			return api.Outcome{}, api.ErrForm
		}
	}
	m := &laid{u: u, data: make([]uint32, u.words)}
	if u.extends > 0 {
		m.line = slices.Clone(w.meant(m, u.extends).line)
	}
	if len(m.line) > 3 {
		return api.Outcome{}, api.ErrForm
	}
	_, _, _, size := u.parts()
	m.base = w.take(size)
	if m.base == 0 {
		return api.Outcome{}, api.ErrMemory
	}
	m.line = append(m.line, m.place(typeExport))
	w.mods = append(w.mods, m)
	if u.body == nil {
		return api.Outcome{}, nil
	}
	switch o := w.run(m, *u.body, fuel); o.End {
	case api.Trapped:
		return o, api.ErrTrap
	case api.Fuel:
		return o, api.ErrFuel
	}
	return api.Outcome{}, nil
}

// load loads a module; with an error what it added goes, and so does what cells tell of that.
func (w *world) load(name string, fuel int) (api.Outcome, error) {
	list, err := w.resolve(name, nil, nil)
	if err != nil {
		return api.Outcome{}, err
	}
	if len(w.mods)+len(list) > w.most {
		return api.Outcome{}, api.ErrTable
	}
	before := len(w.mods)
	for _, u := range list {
		o, err := w.one(u, fuel)
		if err == nil {
			continue
		}
		for len(w.mods) > before {
			w.drop(w.mods[len(w.mods)-1])
		}
		w.clear()
		return o, err
	}
	return api.Outcome{}, nil
}

// drop has a module be gone.
func (w *world) drop(m *laid) {
	_, _, _, size := m.u.parts()
	w.mark(m.base, size, false)
	w.mods = slices.DeleteFunc(slices.Clone(w.mods), func(x *laid) bool { return x == m })
}

// clear has each cell be 0 that may not have its value.
func (w *world) clear() {
	for _, m := range w.mods {
		for word, v := range m.data {
			if !w.fits(m.kind(word), int(v)) {
				m.data[word] = 0
			}
		}
	}
}

func (w *world) imported(name string) bool {
	for _, m := range w.mods {
		for _, i := range m.u.imports {
			if i.Name == name {
				return true
			}
		}
	}
	return false
}

// held tells whether a cell of another module, or else of its own, has a place of a module's block.
func (w *world) held(name string, itself bool) bool {
	m := w.find(name)
	for _, x := range w.mods {
		for word, v := range x.data {
			if m != nil && (x == m) == itself && x.kind(word) > 0 && m.has(int(v)) {
				return true
			}
		}
	}
	return false
}

func (w *world) free(name string) error {
	switch m := w.find(name); {
	case !aName.MatchString(name):
		return api.ErrName
	case m == nil:
		return api.ErrNone
	case w.imported(name) || w.held(name, false):
		return api.ErrBusy
	default:
		w.drop(m)
	}
	return nil
}

// told is what the table is to tell of a module.
func (m *laid) told() table.Module {
	_, _, code, size := m.u.parts()
	told := table.Module{Name: m.u.name, Key: m.u.key, Base: m.base, Size: size, Zone: m.zone()}
	for _, i := range m.u.imports {
		told.Imports = append(told.Imports, i.Name)
	}
	for i, at := range []int{1, 1 + m.u.cmds[0].size()} {
		told.Cmds = append(told.Cmds, api.Entry{Name: cmdNames[i], At: m.base + code + 4*at})
	}
	for ent := range m.u.exports {
		e := table.Export{Kind: api.Var, At: m.place(ent)}
		switch ent {
		case procExport:
			e.Kind = api.Proc
		case typeExport:
			e.Kind, e.Line = api.Rec, m.line
		}
		told.Exports = append(told.Exports, e)
	}
	return told
}
