package unload

import (
	"dowel/api"
	"dowel/obj"
	"testing"
)

// Chains, by their numbers in Fix.
const (
	calls     = 0
	addresses = 1
	types     = 2
)

// ownText is the module that a reference means, if that is its own text.
const ownText = 15

// source is a file that a test writes.
type source struct {
	o     api.Object
	bytes []byte // the file's, where they are to be no object's
}

// keyOf is the key of a name's module, where a test doesn't give it another one.
func keyOf(name string) uint32 {
	key := uint32(7)
	for _, b := range []byte(name) {
		key = key*257 + uint32(b)
	}
	return key
}

// module is one that has nothing but its imports.
func module(name string, imports ...string) *source {
	x := &source{o: api.Object{Name: name, Key: keyOf(name)}}
	for _, s := range imports {
		x.o.Imports = append(x.o.Imports, api.Import{Name: s, Key: keyOf(s)})
	}
	return x
}

func (x *source) data(words int) *source {
	x.o.Data = words
	return x
}

func (x *source) text(s string) *source {
	x.o.Text = s
	return x
}

func (x *source) rec(size int) *source {
	x.o.Types = append(x.o.Types, api.Type{Size: size, Base: -1})
	return x
}

func (x *source) ptrs(words ...int) *source {
	x.o.Ptrs = append(x.o.Ptrs, words...)
	return x
}

func (x *source) procs(words ...int) *source {
	x.o.Procs = append(x.o.Procs, words...)
	return x
}

func (x *source) export(kind, at int) *source {
	x.o.Exports = append(x.o.Exports, api.Export{Kind: kind, At: at})
	return x
}

// here is where the next instruction is to stand.
func (x *source) here() int { return len(x.o.Code) }

func (x *source) ins(op, a, b, n int) *source {
	x.o.Code = append(x.o.Code, uint32(op)<<26|uint32(a)<<22|uint32(b)<<18|uint32(n)&(1<<18-1))
	return x
}

// ref puts an instruction that refers to something, and leads its chain down to the one put ahead of it.
func (x *source) ref(which, a, mod, ent int) *source {
	op, at, down := api.Set, x.here(), 0
	if which == calls {
		op = api.Call
	}
	if head := x.o.Fix[which]; head > 0 {
		down = at - (head - 1)
	}
	x.o.Fix[which] = at + 1
	return x.ins(op, a, 0, down<<10|mod<<6|ent)
}

func (x *source) cmd(name string) *source {
	x.o.Cmds = append(x.o.Cmds, api.Entry{Name: name, At: x.here()})
	return x
}

// body has the body begin here.
func (x *source) body() *source {
	x.o.Body = x.here() + 1
	return x
}

// back ends code that was called by register 15.
func (x *source) back() *source { return x.ins(api.Go, 15, 0, 0) }

// trap ends code with a word that is no instruction.
func (x *source) trap() *source { return x.ins(0, 0, 0, 0) }

// key gives it another key, which no import names.
func (x *source) key(key uint32) *source {
	x.o.Key = key
	return x
}

// size is how many bytes its block has.
func (x *source) size() int {
	return 4*x.o.Data + 16*len(x.o.Types) + (len(x.o.Text)+3)/4*4 + 4*len(x.o.Code)
}

// file is what is put.
func (x *source) file(t testing.TB) []byte {
	t.Helper()
	if x.bytes != nil {
		return x.bytes
	}
	if len(x.o.Code) == 0 {
		x.back()
	}
	b, err := obj.Put(x.o)
	if err != nil {
		t.Fatalf("Put of %q: %v", x.o.Name, err)
	}
	return b
}
