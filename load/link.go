package load

import (
	"dowel/api"
	"dowel/chain"
	"dowel/check"
	"dowel/desc"
	"dowel/plan"
	"dowel/reloc"
	"dowel/table"
	"dowel/zone"
)

// How many bytes there are of a word, and of a type's descriptor.
const (
	wordBytes = 4
	typeBytes = (1 + api.MaxAnc) * wordBytes
)

// Which modules a type, or a reference, means, beside imports, which are numbered from 1 on.
const (
	itself  = 0
	ownText = 15
)

// linked is an object that knows where all lies.
type linked struct {
	object  api.Object
	plan    plan.Plan
	base    int              // where its block is to lie
	lines   [][]int          // its types'
	types   []uint32         // their descriptors, one behind the other
	exports [][]table.Export // by modules' numbers: its own, and its imports'
	code    []uint32
}

// link links an object whose block is to lie at a place.
func (s *System) link(o api.Object, base int) (*linked, error) {
	refs, ok := check.Refs(o)
	if !ok {
		return nil, api.ErrForm
	}
	l := &linked{object: o, plan: plan.Of(o), base: base, exports: s.exportsOf(o)}
	if err := l.linkTypes(); err != nil {
		return nil, err
	}
	l.exports[itself] = l.ownExports()
	if err := l.linkCode(refs); err != nil {
		return nil, err
	}
	return l, nil
}

// exportsOf are what an object's imports export, by their numbers; its own have no places yet.
func (s *System) exportsOf(o api.Object) [][]table.Export {
	list := make([][]table.Export, 1+len(o.Imports))
	for i, x := range o.Imports {
		m, _ := s.table.Find(x.Name)
		list[1+i] = m.Exports
	}
	return list
}

func (l *linked) linkTypes() error {
	for i, t := range l.object.Types {
		base, ok := l.baseLine(t)
		if !ok {
			return api.ErrForm
		}
		line, err := desc.Line(base, l.typeAt(i))
		if err != nil {
			return err
		}
		words, err := desc.Words(t.Size, line)
		if err != nil {
			return err
		}
		l.lines = append(l.lines, line)
		l.types = append(l.types, words...)
	}
	return nil
}

// baseLine is the line of what a type extends; of its own module that is a type whose line is known already.
func (l *linked) baseLine(t api.Type) ([]int, bool) {
	if t.Mod != itself {
		e, ok := l.export(t.Mod, t.Base)
		return e.Line, ok && e.Kind == api.Rec
	}
	if t.Base < 0 {
		return nil, true
	}
	return l.lines[t.Base], true
}

// ownExports are the object's: where they lie, and of a type its line.
func (l *linked) ownExports() []table.Export {
	list := make([]table.Export, len(l.object.Exports))
	for i, e := range l.object.Exports {
		at, _ := plan.Export(l.object, i)
		list[i] = table.Export{Kind: e.Kind, At: l.base + at}
		if e.Kind == api.Rec {
			list[i].Line = l.lines[e.At]
		}
	}
	return list
}

// linkCode has each reference tell where that lies which it means.
func (l *linked) linkCode(refs [3][]chain.Ref) error {
	var fixes []reloc.Fix
	for which, list := range refs {
		for _, r := range list {
			target, ok := l.target(which, r)
			if !ok {
				return api.ErrForm
			}
			fixes = append(fixes, reloc.Fix{At: r.At, Target: target})
		}
	}
	code, err := reloc.Link(l.object.Code, l.codeAt(0), fixes)
	l.code = code
	return err
}

// target is where that lies which a chain's reference means.
func (l *linked) target(which int, r chain.Ref) (int, bool) {
	if r.Mod == ownText {
		return l.base + l.plan.Text + r.Ent, true
	}
	e, ok := l.export(r.Mod, r.Ent)
	return e.At, ok && check.Fits(which, e.Kind)
}

// export is a module's export of a number.
func (l *linked) export(mod, n int) (table.Export, bool) {
	if n >= len(l.exports[mod]) {
		return table.Export{}, false
	}
	return l.exports[mod][n], true
}

// module is what the table is to have.
func (l *linked) module() table.Module {
	o := l.object
	m := table.Module{Name: o.Name, Key: o.Key, Base: l.base, Size: l.plan.Size, Zone: l.zone(), Exports: l.exports[itself]}
	for _, x := range o.Imports {
		m.Imports = append(m.Imports, x.Name)
	}
	for _, c := range o.Cmds {
		m.Cmds = append(m.Cmds, api.Entry{Name: c.Name, At: l.codeAt(c.At)})
	}
	return m
}

// zone is the block's.
func (l *linked) zone() zone.Zone {
	return zone.Zone{
		Base:  l.base,
		Data:  l.base + l.plan.Types,
		Read:  l.base + l.plan.Code,
		End:   l.base + l.plan.Size,
		Ptrs:  l.cells(l.object.Ptrs),
		Procs: l.cells(l.object.Procs),
	}
}

// cells are where data words are to lie.
func (l *linked) cells(words []int) []int {
	var list []int
	for _, word := range words {
		list = append(list, l.base+word*wordBytes)
	}
	return list
}

// typeAt is where a type's descriptor is to lie.
func (l *linked) typeAt(n int) int { return l.base + l.plan.Types + n*typeBytes }

// codeAt is where an instruction is to lie.
func (l *linked) codeAt(n int) int { return l.base + l.plan.Code + n*wordBytes }
