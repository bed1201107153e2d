package load

import (
	"dowel/api"
	"dowel/check"
	"dowel/obj"
	"slices"
	"testing"
)

// Chains, by their numbers in Fix.
const (
	calls     = 0
	addresses = 1
	types     = 2
)

// means is a reference that a test has put into code: of which chain it is, where, and what it means.
type means struct{ which, at, mod, ent int }

// source is a file that a test writes.
type source struct {
	o     api.Object
	refs  []means
	bytes []byte // the file's, where they are to be others than the object's
	wrong bool   // whether it is none that may be a module
}

// keyOf is the key of a name's module, where a test doesn't give it another one.
func keyOf(name string) uint32 {
	key := uint32(2166136261)
	for _, b := range []byte(name) {
		key = (key ^ uint32(b)) * 16777619
	}
	return key
}

// module is one that has nothing but its imports.
func module(name string, imports ...string) *source {
	x := &source{o: api.Object{Name: name, Key: keyOf(name)}}
	for _, s := range imports {
		x.o.Imports = append(x.o.Imports, api.Import{Name: s, Key: keyOf(s)})
	}
	return x
}

// word is an instruction's.
func word(op, a, b, n int) uint32 {
	return uint32(op)<<26 | uint32(a)<<22 | uint32(b)<<18 | uint32(n)&(1<<18-1)
}

func (x *source) data(words int) *source {
	x.o.Data = words
	return x
}

func (x *source) text(s string) *source {
	x.o.Text = s
	return x
}

func (x *source) rec(size, mod, base int) *source {
	x.o.Types = append(x.o.Types, api.Type{Size: size, Mod: mod, Base: base})
	return x
}

func (x *source) ptrs(words ...int) *source {
	x.o.Ptrs = append(x.o.Ptrs, words...)
	return x
}

func (x *source) procs(words ...int) *source {
	x.o.Procs = append(x.o.Procs, words...)
	return x
}

func (x *source) export(kind, at int) *source {
	x.o.Exports = append(x.o.Exports, api.Export{Kind: kind, At: at})
	return x
}

// here is where the next instruction is to stand.
func (x *source) here() int { return len(x.o.Code) }

func (x *source) ins(op, a, b, n int) *source {
	x.o.Code = append(x.o.Code, word(op, a, b, n))
	return x
}

// ref puts an instruction that refers to something, and leads its chain down to the one put ahead of it.
func (x *source) ref(which, a, mod, ent int) *source {
	op, at, down := api.Set, x.here(), 0
	if which == calls {
		op = api.Call
	}
	if head := x.o.Fix[which]; head > 0 {
		down = at - (head - 1)
	}
	x.o.Fix[which] = at + 1
	x.refs = append(x.refs, means{which, at, mod, ent})
	return x.ins(op, a, 0, down<<10|mod<<6|ent)
}

func (x *source) cmd(name string) *source {
	x.o.Cmds = append(x.o.Cmds, api.Entry{Name: name, At: x.here()})
	return x
}

// body has the body begin here.
func (x *source) body() *source {
	x.o.Body = x.here() + 1
	return x
}

// back ends code that was called by register 15.
func (x *source) back() *source { return x.ins(api.Go, 15, 0, 0) }

// key gives it another key, which no import names.
func (x *source) key(key uint32) *source {
	x.o.Key = key
	return x
}

// spoil has it be none that may be a module.
func (x *source) spoil() *source {
	x.wrong = true
	x.o.Body = 1000
	return x
}

// cloned is a copy that may be written on.
func (x *source) cloned() *source {
	c := *x
	c.o.Imports, c.o.Types = slices.Clone(x.o.Imports), slices.Clone(x.o.Types)
	c.o.Code, c.o.Cmds = slices.Clone(x.o.Code), slices.Clone(x.o.Cmds)
	c.o.Exports, c.refs = slices.Clone(x.o.Exports), slices.Clone(x.refs)
	c.o.Ptrs, c.o.Procs = slices.Clone(x.o.Ptrs), slices.Clone(x.o.Procs)
	return &c
}

// file is what is put.
func (x *source) file(t testing.TB) []byte {
	t.Helper()
	if x.bytes != nil {
		return x.bytes
	}
	if len(x.o.Code) == 0 {
		x.back()
	}
	b, err := obj.Put(x.o)
	if err != nil {
		t.Fatalf("Put of %q: %v", x.o.Name, err)
	}
	return b
}

// noObject is a file that is no object.
func noObject(name string, bytes ...byte) *source {
	x := module(name)
	x.wrong, x.bytes = true, bytes
	if bytes == nil {
		x.bytes = []byte{}
	}
	return x
}

// sourceOf is a file of any bytes.
func sourceOf(b []byte) *source {
	o, err := obj.Get(b)
	if err != nil {
		return noObject("", b...)
	}
	x := &source{o: o, bytes: b}
	refs, ok := check.Refs(o)
	x.wrong = !ok
	for which, list := range refs {
		for _, r := range list {
			x.refs = append(x.refs, means{which, r.At, r.Mod, r.Ent})
		}
	}
	return x
}
