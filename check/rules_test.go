package check

import (
	"dowel/api"
	"dowel/chain"
	"reflect"
	"slices"
	"strconv"
	"strings"
	"testing"
)

// roomy is the sample, whose lists all have room for more behind their ends.
func roomy() api.Object {
	o := sample()
	o.Imports = slices.Grow(o.Imports, 9)
	o.Types = slices.Grow(o.Types, 9)
	o.Code = slices.Grow(o.Code, 300)
	o.Cmds = slices.Grow(o.Cmds, 9)
	o.Exports = slices.Grow(o.Exports, 70)
	o.Ptrs = slices.Grow(o.Ptrs, 20)
	o.Procs = slices.Grow(o.Procs, 20)
	return o
}

// whole is the object with all that its lists have room for.
func whole(o api.Object) api.Object {
	o.Imports = o.Imports[:cap(o.Imports)]
	o.Types = o.Types[:cap(o.Types)]
	o.Code = o.Code[:cap(o.Code)]
	o.Cmds = o.Cmds[:cap(o.Cmds)]
	o.Exports = o.Exports[:cap(o.Exports)]
	o.Ptrs = o.Ptrs[:cap(o.Ptrs)]
	o.Procs = o.Procs[:cap(o.Procs)]
	return o
}

// fill changes all of a list, up to its capacity.
func fill[T any](list []T, with T) {
	list = list[:cap(list)]
	for i := range list {
		list[i] = with
	}
}

func TestR2WhatIsHandedInStays(t *testing.T) {
	for _, name := range []string{"List", "2"} {
		o := roomy()
		o.Name = name
		before := copyOf(whole(o))
		Valid(o)
		Refs(o)
		if !reflect.DeepEqual(whole(o), before) {
			t.Errorf("what was handed in is changed: %s", brief(o))
		}
	}
}

func TestR2ReferencesAreNewMemory(t *testing.T) {
	o := sample()
	first, _ := Refs(o)
	second, _ := Refs(o)
	for which := range first {
		fill(first[which], chain.Ref{At: 99, Mod: 99, Ent: 99})
	}
	if !reflect.DeepEqual(o, sample()) {
		t.Fatalf("references that were told, changed, turn the object into %s", brief(o))
	}
	if !sameRefs(second, sampleRefs()) {
		t.Fatalf("references that were told, changed, turn others into %v", second)
	}
	fill(o.Code, 7)
	fill(o.Exports, api.Export{Kind: 7, At: 7})
	fill(o.Imports, api.Import{Name: "spoilt"})
	if !sameRefs(second, sampleRefs()) {
		t.Fatalf("an object that is changed turns its references into %v", second)
	}
	third, ok := Refs(sample())
	if !ok || !sameRefs(third, sampleRefs()) {
		t.Fatalf("Refs = %v, %v", third, ok)
	}
}

func TestR2ListsOfOneAnswerShareNothing(t *testing.T) {
	for which := range 3 {
		refs, _ := Refs(sample())
		fill(refs[which], chain.Ref{At: 99})
		_ = append(refs[which], chain.Ref{At: 98}, chain.Ref{At: 98}, chain.Ref{At: 98}, chain.Ref{At: 98})
		copy(refs[which], sampleRefs()[which])
		if !sameRefs(refs, sampleRefs()) {
			t.Errorf("chain %d, changed, turns the others: %v", which, refs)
		}
	}
}

// Each of these breaks one point, while there is much that its chains mean.
func spoilers() map[string]func(o *api.Object) {
	return map[string]func(o *api.Object){
		"name":        func(o *api.Object) { o.Name = "" },
		"import":      func(o *api.Object) { o.Imports[1].Name = "A" },
		"data":        func(o *api.Object) { o.Data = 65 },
		"text":        func(o *api.Object) { o.Text = strings.Repeat("a", 61) },
		"size":        func(o *api.Object) { o.Types[2].Size = 2 },
		"base":        func(o *api.Object) { o.Types[1].Base = 1 },
		"command":     func(o *api.Object) { o.Cmds[1].At = 16 },
		"kind":        func(o *api.Object) { o.Exports[4].Kind = 3 },
		"export":      func(o *api.Object) { o.Exports[2].At = 3 },
		"pointer":     func(o *api.Object) { o.Ptrs[2] = 8 },
		"cell":        func(o *api.Object) { o.Procs[1] = 6 },
		"body":        func(o *api.Object) { o.Body = 17 },
		"calls":       func(o *api.Object) { o.Fix[0] = 17 },
		"addresses":   func(o *api.Object) { o.Fix[1] = -1 },
		"types":       func(o *api.Object) { o.Fix[2] = 10 },
		"last type":   func(o *api.Object) { o.Code[2] = link(api.Set, 0, 0, 0) },
		"last call":   func(o *api.Object) { o.Code[0] = link(api.Call, 1, 0, 0) },
		"last of all": func(o *api.Object) { o.Code[1] = link(api.Set, 0, 15, 6) },
	}
}

func TestR3NoReferencesWithFalse(t *testing.T) {
	for what, spoil := range spoilers() {
		o := sample()
		spoil(&o)
		refs, ok := Refs(o)
		if ok || Valid(o) {
			t.Errorf("%s: it may be a module", what)
		}
		for which, list := range refs {
			if len(list) != 0 {
				t.Errorf("%s: with false chain %d is told as %v", what, which, list)
			}
		}
	}
}

func TestP14_2AnotherNameAndKey(t *testing.T) {
	for _, o := range []api.Object{sample(), bare(), named(8, 8)} {
		want, _ := Refs(o)
		for _, name := range []string{"x", "B", "list", "LIST", "Lists", "Do", "cmd0", "Zz0123456789abcd", o.Name} {
			for _, key := range []uint32{0, 1, 5, 77, 1 << 31, 1<<32 - 1} {
				other := o
				other.Name, other.Key = name, key
				checkMay(t, other)
				if refs, ok := Refs(other); !ok || !sameRefs(refs, want) {
					t.Fatalf("with the name %q Refs = %v, want %v", name, refs, want)
				}
			}
		}
		for _, i := range o.Imports {
			other := o
			other.Name = i.Name
			checkBreaks(t, other, 1)
			other.Key = i.Key
			checkBreaks(t, other, 1)
		}
		for _, name := range []string{"", "2B", "a b", "Zz0123456789abcde", "é"} {
			other := o
			other.Name = name
			checkBreaks(t, other, 1)
		}
	}
}

// A key is no part of what is asked.
func TestP14_2AnotherKeyOfAnImport(t *testing.T) {
	for _, key := range []uint32{0, 1, 77, 1<<32 - 1} {
		o := sample()
		o.Imports[0].Key, o.Imports[1].Key = key, key
		checkMay(t, o)
	}
}

// settersOfNumbers set one number each of the sample.
func settersOfNumbers() []func(o *api.Object, n int) {
	l := []func(o *api.Object, n int){
		func(o *api.Object, n int) { o.Data = n }, func(o *api.Object, n int) { o.Body = n },
	}
	for i := range 3 {
		l = append(l, func(o *api.Object, n int) { o.Fix[i] = n }, func(o *api.Object, n int) { o.Types[i].Size = n },
			func(o *api.Object, n int) { o.Types[i].Mod = n }, func(o *api.Object, n int) { o.Types[i].Base = n }, func(o *api.Object, n int) { o.Ptrs[i] = n })
	}
	for i := range 2 {
		l = append(l, func(o *api.Object, n int) { o.Cmds[i].At = n }, func(o *api.Object, n int) { o.Procs[i] = n })
	}
	for i := range 7 {
		l = append(l, func(o *api.Object, n int) { o.Exports[i].Kind = n }, func(o *api.Object, n int) { o.Exports[i].At = n })
	}
	return l
}

func TestP1FarNumbersInEachPart(t *testing.T) {
	for _, set := range settersOfNumbers() {
		for _, n := range far {
			o := sample()
			set(&o, n)
			if len(checkPlain(t, o)) == 0 {
				t.Fatalf("with %d it may be a module: %s", n, brief(o))
			}
		}
		for n := -300; n <= 300; n++ {
			o := sample()
			set(&o, n)
			checkPlain(t, o)
		}
	}
	for _, set := range settersOfNumbers() {
		for _, also := range settersOfNumbers() {
			for _, n := range []int{far[0], far[len(far)-1], -1} {
				o := sample()
				set(&o, n)
				also(&o, far[0])
				checkPlain(t, o)
				also(&o, far[len(far)-1])
				checkPlain(t, o)
			}
		}
	}
}

// Lists of any length are no reason to take long.
func TestP1LongLists(t *testing.T) {
	const many = 1 << 20
	for what, grow := range map[string]func(o *api.Object){
		"imports": func(o *api.Object) {
			for i := range many {
				o.Imports = append(o.Imports, api.Import{Name: "i" + strconv.Itoa(i)})
			}
		},
		"commands": func(o *api.Object) {
			for i := range many {
				o.Cmds = append(o.Cmds, api.Entry{Name: "i" + strconv.Itoa(i)})
			}
		},
		"types":   func(o *api.Object) { o.Types = slices.Repeat([]api.Type{{Base: -1}}, many) },
		"exports": func(o *api.Object) { o.Exports = make([]api.Export, many) },
		"Ptrs":    func(o *api.Object) { o.Ptrs = rising(0, 1, many) },
		"Procs":   func(o *api.Object) { o.Procs = rising(0, 1, many) },
		"both":    func(o *api.Object) { o.Ptrs, o.Procs, o.Data = rising(0, 2, many), rising(1, 2, many), 2*many },
		"text":    func(o *api.Object) { o.Text = strings.Repeat("a", many) },
		"name":    func(o *api.Object) { o.Name = strings.Repeat("a", many) },
		"code": func(o *api.Object) {
			o.Code = slices.Repeat([]uint32{link(api.Set, 1, 1, 1)}, many)
			o.Fix[1], o.Fix[2] = many, many-1
		},
	} {
		o := bare()
		grow(&o)
		if refs, ok := Refs(o); ok || Valid(o) || len(refs[0])+len(refs[1])+len(refs[2]) != 0 {
			t.Errorf("with so many %s it may be a module", what)
		}
	}
}
