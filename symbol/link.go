package symbol

import (
	"dowel/api"
	"dowel/chain"
	"dowel/check"
	"dowel/desc"
	"dowel/plan"
	"slices"
)

// Which modules a type, or a reference, means, beside imports, which are numbered from 1 on.
const (
	itself  = 0
	ownText = 15
)

// Kinds of declared cells; a word that isn't declared has none.
const (
	noCell   = 0
	ptrCell  = 1
	procCell = 2
)

// module is an object that is linked.
type module struct {
	key     uint32
	plan    plan.Plan
	words   []Value       // all that can be loaded: data, types' descriptors, the text
	code    []uint32      // as the object has it
	refs    map[int]Value // what instructions refer to, by their numbers in code
	cells   map[int]int   // declared cells' kinds, by their words' numbers
	exports []export
}

// export is what others may refer to.
type export struct {
	kind int
	at   Value
	line []int // a type's: the numbers of those that it extends, and its own
}

// linker makes a module of an object.
type linker struct {
	object  api.Object
	number  int // the module's
	imports []*module
	types   []Value // the world's, and behind them the object's
	lines   [][]int // the object's types'
	made    *module
}

// linker is one for a module that is to be the next one.
func (w *World) linker(o api.Object, imports []*module) *linker {
	p := plan.Of(o)
	m := &module{
		key:   o.Key,
		plan:  p,
		words: make([]Value, p.Code/wordBytes),
		code:  slices.Clone(o.Code),
		refs:  map[int]Value{},
		cells: map[int]int{},
	}
	return &linker{object: o, number: len(w.modules) + 1, imports: imports, types: w.types, made: m}
}

// link does all that is to be done, the object's references known.
func (l *linker) link(refs [3][]chain.Ref) error {
	if !l.keysMatch() {
		return api.ErrForm
	}
	if err := l.linkTypes(); err != nil {
		return err
	}
	l.addExports()
	if !l.linkCode(refs) {
		return api.ErrForm
	}
	l.layText()
	l.declare(l.object.Ptrs, ptrCell)
	l.declare(l.object.Procs, procCell)
	return nil
}

// keysMatch tells whether each import has the key that the object names.
func (l *linker) keysMatch() bool {
	for i, x := range l.object.Imports {
		if l.imports[i].key != x.Key {
			return false
		}
	}
	return true
}

func (l *linker) linkTypes() error {
	for i, t := range l.object.Types {
		base, ok := l.baseLine(t)
		if !ok {
			return api.ErrForm
		}
		at := l.made.plan.Types + i*typeBytes
		l.types = append(l.types, l.place(at))
		line, err := desc.Line(base, len(l.types))
		if err != nil {
			return err
		}
		words, err := desc.Words(t.Size, line)
		if err != nil {
			return err
		}
		l.lines = append(l.lines, line)
		l.layType(at, words)
	}
	return nil
}

// baseLine is the line of what a type extends; of its own module that is a type whose line is known already.
func (l *linker) baseLine(t api.Type) ([]int, bool) {
	if t.Mod != itself {
		e, ok := l.export(t.Mod, t.Base)
		return e.line, ok && e.kind == api.Rec
	}
	if t.Base < 0 {
		return nil, true
	}
	return l.lines[t.Base], true
}

// layType lays a descriptor whose words behind the first one are types' numbers, or 0.
func (l *linker) layType(at int, words []uint32) {
	laid := l.made.words[at/wordBytes:]
	laid[0] = number(int32(words[0]))
	for i, n := range words[1:] {
		if n > 0 {
			laid[1+i] = l.types[n-1]
		}
	}
}

// layText lays the text; zeros are there already.
func (l *linker) layText() {
	for i := range len(l.object.Text) {
		at := l.made.plan.Text + i
		word := &l.made.words[at/wordBytes]
		*word = withByte(*word, at%wordBytes, l.object.Text[i])
	}
}

func (l *linker) addExports() {
	for i, e := range l.object.Exports {
		at, _ := plan.Export(l.object, i)
		x := export{kind: e.Kind, at: l.place(at)}
		if e.Kind == api.Rec {
			x.line = l.lines[e.At]
		}
		l.made.exports = append(l.made.exports, x)
	}
}

// linkCode has each reference be known by its instruction.
func (l *linker) linkCode(refs [3][]chain.Ref) bool {
	for which, list := range refs {
		for _, r := range list {
			target, ok := l.target(which, r)
			if !ok {
				return false
			}
			l.made.refs[r.At] = target
		}
	}
	return true
}

// target is where that lies which a chain's reference means.
func (l *linker) target(which int, r chain.Ref) (Value, bool) {
	if r.Mod == ownText {
		return l.place(l.made.plan.Text + r.Ent), true
	}
	e, ok := l.export(r.Mod, r.Ent)
	return e.at, ok && check.Fits(which, e.kind)
}

// export is a module's export of a number: of the object itself, or of an import.
func (l *linker) export(mod, n int) (export, bool) {
	m := l.made
	if mod != itself {
		m = l.imports[mod-1]
	}
	if n >= len(m.exports) {
		return export{}, false
	}
	return m.exports[n], true
}

// declare has data words be declared cells.
func (l *linker) declare(words []int, kind int) {
	for _, word := range words {
		l.made.cells[word] = kind
	}
}

// place is one in the object's block.
func (l *linker) place(n int) Value { return Value{Mod: l.number, N: n} }
