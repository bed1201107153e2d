package symbol

import (
	"dowel/api"
	"dowel/obj"
	"slices"
	"testing"
)

// Chains, by their numbers in Fix.
const (
	calls     = 0
	addresses = 1
	types     = 2
)

// means is a reference that a test has put into code: of which chain it is, where, and what it means.
type means struct{ which, at, mod, ent int }

// source is a module that a test writes.
type source struct {
	o     api.Object
	refs  []means
	wrong bool // whether it is none that may be a module
}

// keyOf is the key of a name's module, where a test doesn't give it another one.
func keyOf(name string) uint32 {
	key := uint32(5)
	for _, b := range []byte(name) {
		key = key*263 + uint32(b)
	}
	return key
}

// unit is a module that has nothing but its imports.
func unit(name string, imports ...string) *source {
	x := &source{o: api.Object{Name: name, Key: keyOf(name)}}
	for _, s := range imports {
		x.o.Imports = append(x.o.Imports, api.Import{Name: s, Key: keyOf(s)})
	}
	return x
}

func (x *source) data(words int) *source {
	x.o.Data = words
	return x
}

func (x *source) text(s string) *source {
	x.o.Text = s
	return x
}

func (x *source) rec(size, mod, base int) *source {
	x.o.Types = append(x.o.Types, api.Type{Size: size, Mod: mod, Base: base})
	return x
}

func (x *source) ptrs(words ...int) *source {
	x.o.Ptrs = append(x.o.Ptrs, words...)
	return x
}

func (x *source) procs(words ...int) *source {
	x.o.Procs = append(x.o.Procs, words...)
	return x
}

func (x *source) export(kind, at int) *source {
	x.o.Exports = append(x.o.Exports, api.Export{Kind: kind, At: at})
	return x
}

// here is where the next instruction is to stand.
func (x *source) here() int { return len(x.o.Code) }

func (x *source) ins(op, a, b, n int) *source {
	x.o.Code = append(x.o.Code, uint32(op)<<26|uint32(a)<<22|uint32(b)<<18|uint32(n)&(1<<18-1))
	return x
}

// ref puts an instruction that refers to something, and leads its chain down to the one put ahead of it.
func (x *source) ref(which, a, mod, ent int) *source {
	op, at, down := api.Set, x.here(), 0
	if which == calls {
		op = api.Call
	}
	if head := x.o.Fix[which]; head > 0 {
		down = at - (head - 1)
	}
	x.o.Fix[which] = at + 1
	x.refs = append(x.refs, means{which, at, mod, ent})
	return x.ins(op, a, 0, down<<10|mod<<6|ent)
}

// back ends code that was called by register 15.
func (x *source) back() *source { return x.ins(api.Go, 15, 0, 0) }

// none puts a word that is no instruction.
func (x *source) none() *source { return x.ins(0, 0, 0, 0) }

// fill puts instructions that do nothing till there are so many.
func (x *source) fill(words int) *source {
	for x.here() < words {
		x.ins(api.Set, 0, 0, 0)
	}
	return x
}

// body has the body begin here.
func (x *source) body() *source {
	x.o.Body = x.here() + 1
	return x
}

// key gives it another key, which no import names.
func (x *source) key(key uint32) *source {
	x.o.Key = key
	return x
}

// spoil has it be none that may be a module.
func (x *source) spoil() *source {
	x.wrong = true
	x.o.Body = 1000
	return x
}

// whole gives it code, if it has none.
func (x *source) whole() *source {
	if x.here() == 0 {
		x.back()
	}
	return x
}

// size is how many bytes its block has.
func (x *source) size() int { return x.code() + 4*x.here() }

// code is where its code begins.
func (x *source) code() int { return 4*x.o.Data + 16*len(x.o.Types) + (len(x.o.Text)+3)/4*4 }

// file is what a machine loads; its body isn't run there, if it isn't asked for.
func (x *source) file(t testing.TB, body bool) []byte {
	t.Helper()
	o := x.o
	if !body {
		o.Body = 0
	}
	b, err := obj.Put(o)
	if err != nil {
		t.Fatalf("Put of %q: %v", o.Name, err)
	}
	return b
}

// object is a copy that shares nothing with what the test keeps.
func (x *source) object() api.Object {
	o := x.o
	o.Imports, o.Types = slices.Clone(o.Imports), slices.Clone(o.Types)
	o.Code, o.Cmds, o.Exports = slices.Clone(o.Code), slices.Clone(o.Cmds), slices.Clone(o.Exports)
	o.Ptrs, o.Procs = slices.Clone(o.Ptrs), slices.Clone(o.Procs)
	return o
}

// Registers that no test's code has for what it does: they are used to have values be there.
const (
	spareReg = 13
	dataReg  = 12
)

// number has a register be a number.
func (x *source) number(reg int, n int) *source {
	if n >= -131072 && n <= 131071 {
		return x.ins(api.Set, reg, 0, n)
	}
	x.ins(api.Set, reg, 0, n>>16).ins(api.Set, spareReg, 0, 16).ins(api.Shl, reg, reg, spareReg)
	return x.ins(api.Set, spareReg, 0, n&0xffff).ins(api.Or, reg, reg, spareReg)
}

// value has a register be a value. Modules are to be numbered as imports are, its own behind them, and export 0 to be where the block begins.
func (x *source) value(reg int, v Value) *source {
	if v.Mod == 0 {
		return x.number(reg, v.N)
	}
	mod := v.Mod
	if mod > len(x.o.Imports) {
		mod = 0
	}
	x.ref(addresses, reg, mod, 0)
	if v.N != 0 {
		x.ins(api.More, reg, reg, v.N)
	}
	return x
}

// keep has a data word be a register.
func (x *source) keep(reg, word int) *source {
	return x.ref(addresses, dataReg, 0, 0).ins(api.Store, reg, dataReg, 4*word)
}
