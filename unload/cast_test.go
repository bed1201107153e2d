package unload

import (
	"dowel/api"
	"strconv"
)

// By number, what holders and targets export.
const (
	itsData = 0 // its first word: where its block begins
	itsCode = 1 // its first instruction
)

// Of a holder's six words these point, and these tell code; the others aren't declared.
var (
	holderPtrs  = []int{0, 3}
	holderProcs = []int{1, 4}
	holderPlain = []int{2, 5}
)

// Their blocks' bytes: of a holder 24 of data, 64 of code; of a target 8 of data, 16 of types, 8 of its text, 12 of code.
const (
	holderSize = 24 + 64
	targetSize = 8 + 16 + 8 + 12
)

// holder is a module whose words tell what others have them tell; its commands, by their numbers, have one of them be 0.
func holder(name string) *source {
	x := module(name).data(6).ptrs(holderPtrs...).procs(holderProcs...).export(api.Var, 0).export(api.Proc, 0)
	for _, word := range []int{0, 1, 3, 4} {
		x.clear("Clear"+strconv.Itoa(word), 0, word)
	}
	for x.here() < 16 {
		x.back()
	}
	return x
}

// target is a module of which others tell.
func target(name string, imports ...string) *source {
	x := module(name, imports...).data(2).rec(8).text("abcde").export(api.Var, 0).export(api.Proc, 0)
	return x.ins(api.More, 1, 1, 1).ins(api.More, 1, 1, 1).back()
}

// filler is a module of so many bytes, a multiple of 4.
func filler(name string, size int) *source {
	x := module(name)
	for range size / 4 {
		x.back()
	}
	return x
}

// tell puts a command: a word of a module tells a place so far behind an export of another one. Both, by their numbers, are its imports, or itself.
func (x *source) tell(cmd string, to, word, from, ent, far int) *source {
	return x.cmd(cmd).tale(to, word, from, ent, far).back()
}

// tale is the code of that.
func (x *source) tale(to, word, from, ent, far int) *source {
	x.ref(addresses, 1, to, itsData).ref(addresses, 2, from, ent).ins(api.More, 2, 2, far)
	return x.ins(api.Store, 2, 1, 4*word)
}

// clear puts a command: a word of a module is 0.
func (x *source) clear(cmd string, to, word int) *source {
	return x.cmd(cmd).ref(addresses, 1, to, itsData).ins(api.Store, 0, 1, 4*word).back()
}

// tells has a word of a loaded module tell a place so far behind where another one's block begins. The code that does it comes, and goes again.
func (g *rig) tells(to string, word int, from string, far int) *rig {
	g.t.Helper()
	x := module("Teller", to, from).tell("Do", 1, word, 2, itsData, far)
	if to == from {
		x = module("Teller", to).tell("Do", 1, word, 1, itsData, far)
	}
	g.put(x).loads("Teller").calls("Teller", "Do")
	return g.words(g.base(to)+4*word, g.base(from)+far).frees("Teller")
}
