package load

import (
	"dowel/api"
	"dowel/heap"
	"dowel/mem"
	"dowel/run"
	"dowel/table"
	"dowel/zone"
	"regexp"
	"slices"
)

// laid is a module that is loaded.
type laid struct {
	x     *source
	base  int
	lines [][]int
}

// parts tell where in a block types, the text, code begin, and how many bytes it has.
func (x *source) parts() (types, text, code, size int) {
	types = 4 * x.o.Data
	text = types + 16*len(x.o.Types)
	code = text + len(x.o.Text)
	for code%4 != 0 {
		code++
	}
	return types, text, code, code + 4*len(x.o.Code)
}

func (x *source) size() int {
	_, _, _, size := x.parts()
	return size
}

// exportAt is where an export lies.
func (m laid) exportAt(e api.Export) int {
	types, _, code, _ := m.x.parts()
	switch e.Kind {
	case api.Proc:
		return m.base + code + 4*e.At
	case api.Var:
		return m.base + 4*e.At
	}
	return m.base + types + 16*e.At
}

func (m laid) zone() zone.Zone {
	types, _, code, size := m.x.parts()
	z := zone.Zone{Base: m.base, Data: m.base + types, Read: m.base + code, End: m.base + size}
	for _, word := range m.x.o.Ptrs {
		z.Ptrs = append(z.Ptrs, m.base+4*word)
	}
	for _, word := range m.x.o.Procs {
		z.Procs = append(z.Procs, m.base+4*word)
	}
	return z
}

// told is what the table is to tell.
func (m laid) told() table.Module {
	_, _, code, size := m.x.parts()
	o := m.x.o
	told := table.Module{Name: o.Name, Key: o.Key, Base: m.base, Size: size, Zone: m.zone()}
	for _, i := range o.Imports {
		told.Imports = append(told.Imports, i.Name)
	}
	for _, c := range o.Cmds {
		told.Cmds = append(told.Cmds, api.Entry{Name: c.Name, At: m.base + code + 4*c.At})
	}
	for _, e := range o.Exports {
		export := table.Export{Kind: e.Kind, At: m.exportAt(e)}
		if e.Kind == api.Rec {
			export.Line = m.lines[e.At]
		}
		told.Exports = append(told.Exports, export)
	}
	return told
}

// plain is the chapter's words: a system, the plain way.
type plain struct {
	m       *mem.Memory
	taken   []bool // of each word of the memory; the heap's begin behind the stack
	most    int
	files   map[string]*source
	mods    []laid // in the order in which they came
	gone    int    // how many modules went with an error
	cleared int    // how many cells were made nothing with one
}

func plainOf(size, most int) *plain {
	m, err := mem.New(size)
	if err != nil {
		panic(err)
	}
	return &plain{m: m, taken: make([]bool, size/4), most: min(max(most, 0), 16), files: map[string]*source{}}
}

func (p *plain) bytes() []byte { return p.m.Bytes(0, p.m.Size()) }

func (p *plain) word(at int) int {
	w, _ := p.m.Word(at)
	return int(w)
}

// setWord sets one that the memory has.
func (p *plain) setWord(at int, w uint32) {
	if p.m.SetWord(at, w) != 0 {
		panic("no such word")
	}
}

// holes go word by word.
func (p *plain) holes() []heap.Hole {
	var l []heap.Hole
	for i := 272 / 4; i < len(p.taken); i++ {
		switch last := len(l) - 1; {
		case p.taken[i]:
		case last >= 0 && l[last].At+l[last].Size == 4*i:
			l[last].Size += 4
		default:
			l = append(l, heap.Hole{At: 4 * i, Size: 4})
		}
	}
	return l
}

// take takes the first hole's beginning that is so great; 0, if there is none.
func (p *plain) take(size int) int {
	for _, x := range p.holes() {
		if x.Size >= size {
			p.mark(x.At, size, true)
			return x.At
		}
	}
	return 0
}

func (p *plain) mark(at, size int, taken bool) {
	for i := at / 4; 4*i < at+size; i++ {
		p.taken[i] = taken
	}
}

func (p *plain) find(name string) (laid, bool) {
	for _, m := range p.mods {
		if m.x.o.Name == name {
			return m, true
		}
	}
	return laid{}, false
}

func (p *plain) names() []string {
	l := []string{}
	for _, m := range p.mods {
		l = append(l, m.x.o.Name)
	}
	return l
}

// zones are all, rising.
func (p *plain) zones() []zone.Zone {
	var l []zone.Zone
	for _, m := range p.mods {
		l = append(l, m.zone())
	}
	slices.SortFunc(l, func(a, b zone.Zone) int { return a.Base - b.Base })
	return l
}

var aName = regexp.MustCompile(`^[a-zA-Z][a-zA-Z0-9]{0,15}$`)

// resolve is what is to be loaded behind a list, of a name at a depth, with these under way.
func (p *plain) resolve(name string, list []*source, way []string) ([]*source, error) {
	if _, ok := p.keyOf(name, list); ok {
		return list, nil
	}
	if slices.Contains(way, name) {
		return nil, api.ErrCycle
	}
	if len(way) > 8 {
		return nil, api.ErrDepth
	}
	if !aName.MatchString(name) {
		return nil, api.ErrName
	}
	x, ok := p.files[name]
	if !ok {
		return nil, api.ErrNone
	}
	if x.wrong || x.o.Name != name {
		return nil, api.ErrForm
	}
	for _, i := range x.o.Imports {
		var err error
		list, err = p.resolve(i.Name, list, append(slices.Clone(way), name))
		if err != nil {
			return nil, err
		}
		if key, _ := p.keyOf(i.Name, list); key != i.Key {
			return nil, api.ErrKey
		}
	}
	return append(slices.Clone(list), x), nil
}

// keyOf is the key of what is loaded, or was resolved.
func (p *plain) keyOf(name string, list []*source) (uint32, bool) {
	if m, ok := p.find(name); ok {
		return m.x.o.Key, true
	}
	for _, x := range list {
		if x.o.Name == name {
			return x.o.Key, true
		}
	}
	return 0, false
}

// imported is an export of an import: where it lies, of which kind it is, and of a type its line.
func (p *plain) imported(x *source, mod, number int) (at, kind int, line []int, ok bool) {
	m, _ := p.find(x.o.Imports[mod-1].Name)
	if number >= len(m.x.o.Exports) {
		return 0, 0, nil, false
	}
	e := m.x.o.Exports[number]
	if e.Kind == api.Rec {
		line = m.lines[e.At]
	}
	return m.exportAt(e), e.Kind, line, true
}

// linesOf are the lines of a module's types; false, if one isn't there, or is too long.
func (p *plain) linesOf(x *source, base int) ([][]int, bool) {
	types, _, _, _ := x.parts()
	var lines [][]int
	for i, r := range x.o.Types {
		var line []int
		switch {
		case r.Mod > 0:
			_, kind, l, ok := p.imported(x, r.Mod, r.Base)
			if !ok || kind != api.Rec {
				return nil, false
			}
			line = l
		case r.Base >= 0:
			line = lines[r.Base]
		}
		line = append(slices.Clone(line), base+types+16*i)
		if len(line) > 4 {
			return nil, false
		}
		lines = append(lines, line)
	}
	return lines, true
}

// codeOf is a module's code, linked; false, if something that it refers to isn't there.
func (p *plain) codeOf(m laid) ([]uint32, bool) {
	_, text, begin, _ := m.x.parts()
	code := slices.Clone(m.x.o.Code)
	for _, r := range m.x.refs {
		var at int
		switch r.mod {
		case 15:
			at = m.base + text + r.ent
		case 0:
			at = m.exportAt(m.x.o.Exports[r.ent])
		default:
			to, kind, _, ok := p.imported(m.x, r.mod, r.ent)
			fits := r.which == calls && kind == api.Proc || r.which == addresses && kind != api.Rec || r.which == types && kind == api.Rec
			if !ok || !fits {
				return nil, false
			}
			at = to
		}
		if r.which == calls {
			at = (at - (m.base + begin + 4*r.at + 4)) / 4
		}
		code[r.at] = code[r.at]>>18<<18 | uint32(at)&(1<<18-1)
	}
	return code, true
}

// lay lays a module's block.
func (p *plain) lay(m laid, code []uint32) {
	types, text, begin, size := m.x.parts()
	for at := 0; at < size; at += 4 {
		p.setWord(m.base+at, 0)
	}
	for i, line := range m.lines {
		p.setWord(m.base+types+16*i, uint32(m.x.o.Types[i].Size))
		for k, at := range line[:len(line)-1] {
			p.setWord(m.base+types+16*i+4+4*k, uint32(at))
		}
	}
	for i := range len(m.x.o.Text) {
		p.m.SetByte(m.base+text+i, m.x.o.Text[i])
	}
	for i, w := range code {
		p.setWord(m.base+begin+4*i, w)
	}
}

// run runs code: the memory is the one that there is, the zones are made anew.
func (p *plain) run(at, fuel int) api.Outcome {
	z := zone.New()
	for _, x := range p.zones() {
		if z.Add(x) != nil {
			panic("a zone that may not be")
		}
	}
	return run.Call(p.m, z, at, fuel)
}

// one loads one module, whose imports are there.
func (p *plain) one(x *source, fuel int) (api.Outcome, error) {
	if _, ok := p.linesOf(x, 0); !ok {
		return api.Outcome{}, api.ErrForm
	}
	m := laid{x: x}
	if _, ok := p.codeOf(m); !ok {
		return api.Outcome{}, api.ErrForm
	}
	m.base = p.take(x.size())
	if m.base == 0 {
		return api.Outcome{}, api.ErrMemory
	}
	m.lines, _ = p.linesOf(x, m.base)
	code, _ := p.codeOf(m)
	p.lay(m, code)
	p.mods = append(p.mods, m)
	if x.o.Body == 0 {
		return api.Outcome{}, nil
	}
	_, _, begin, _ := x.parts()
	outcome := p.run(m.base+begin+4*(x.o.Body-1), fuel)
	switch outcome.End {
	case api.Trapped:
		return outcome, api.ErrTrap
	case api.Fuel:
		return outcome, api.ErrFuel
	}
	return api.Outcome{}, nil
}

func (p *plain) all(name string, fuel int) (api.Outcome, error) {
	list, err := p.resolve(name, nil, nil)
	if err != nil {
		return api.Outcome{}, err
	}
	if len(p.mods)+len(list) > p.most {
		return api.Outcome{}, api.ErrTable
	}
	for _, x := range list {
		if outcome, err := p.one(x, fuel); err != nil {
			return outcome, err
		}
	}
	return api.Outcome{}, nil
}

func (p *plain) load(name string, fuel int) (api.Outcome, error) {
	before := len(p.mods)
	outcome, err := p.all(name, fuel)
	if err == nil {
		return outcome, nil
	}
	for len(p.mods) > before {
		last := p.mods[len(p.mods)-1]
		p.mods = p.mods[:len(p.mods)-1]
		p.mark(last.base, last.x.size(), false)
		p.gone++
	}
	for _, c := range p.stale() {
		p.setWord(c, 0)
		p.cleared++
	}
	return outcome, err
}

// stale are the declared cells that may not have their values.
func (p *plain) stale() []int {
	var l []int
	for _, m := range p.mods {
		z := m.zone()
		for _, c := range z.Ptrs {
			if v := p.word(c); v != 0 && !p.tells(v, false) {
				l = append(l, c)
			}
		}
		for _, c := range z.Procs {
			if v := p.word(c); v != 0 && (v%4 != 0 || !p.tells(v, true)) {
				l = append(l, c)
			}
		}
	}
	return l
}

// tells tells whether a place is one of a module's code, or of what lies ahead of that.
func (p *plain) tells(at int, code bool) bool {
	for _, m := range p.mods {
		_, _, begin, size := m.x.parts()
		if code && at >= m.base+begin && at < m.base+size || !code && at >= m.base && at < m.base+begin {
			return true
		}
	}
	return false
}

// held tells whether another module's declared cell has a place of a module's block.
func (p *plain) held(name string) bool {
	m, ok := p.find(name)
	if !ok {
		return false
	}
	for _, other := range p.mods {
		z := other.zone()
		for _, c := range slices.Concat(z.Ptrs, z.Procs) {
			if v := p.word(c); other.base != m.base && v >= m.base && v < m.base+m.x.size() {
				return true
			}
		}
	}
	return false
}

func (p *plain) call(name, cmd string, fuel int) (api.Outcome, error) {
	m, ok := p.find(name)
	if !ok {
		return api.Outcome{}, api.ErrNone
	}
	for _, c := range m.told().Cmds {
		if c.Name == cmd {
			return p.run(c.At, fuel), nil
		}
	}
	return api.Outcome{}, api.ErrNone
}

// imports tells how many modules import one.
func (p *plain) imports(name string) int {
	n := 0
	for _, m := range p.mods {
		for _, i := range m.x.o.Imports {
			if i.Name == name {
				n++
			}
		}
	}
	return n
}

func (p *plain) remove(name string) bool {
	m, ok := p.find(name)
	if !ok || p.imports(name) > 0 {
		return false
	}
	p.mods = slices.DeleteFunc(slices.Clone(p.mods), func(x laid) bool { return x.x.o.Name == name })
	p.mark(m.base, m.x.size(), false)
	return true
}
