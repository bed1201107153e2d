package order

import (
	"dowel/api"
	"math"
	"slices"
	"strconv"
	"strings"
	"testing"
)

// spoilLists changes all that an object's lists have, also within the room behind their ends.
func spoilLists(o api.Object) {
	fill(o.Imports, api.Import{Name: "Spoilt", Key: 9})
	fill(o.Types, api.Type{Size: 9, Mod: 9, Base: 9})
	fill(o.Code, 9)
	fill(o.Cmds, api.Entry{Name: "Spoilt", At: 9})
	fill(o.Exports, api.Export{Kind: 9, At: 9})
	fill(o.Ptrs, 9)
	fill(o.Procs, 9)
}

func fill[E any](l []E, e E) {
	l = l[:cap(l)]
	for i := range l {
		l[i] = e
	}
}

// graphs are some worlds, made anew at each call.
func graphs() []*world {
	return []*world{
		having(module("A")),
		having(bare("A")),
		having(module("A", "B", "C"), module("B", "D"), module("C", "D"), module("D")),
		having(module("A", "B", "C"), bare("B", "D"), module("C", "D", "B"), module("D")).load("D"),
		having(append(lined(line(8)), module("A", "Aa"))...),
	}
}

// A change of what get told turns nothing that was told.
func TestP19_2WhatGetTellsIsNotKept(t *testing.T) {
	for i, w := range graphs() {
		list, err := Resolve("A", w.get, w.has)
		if err != nil {
			t.Fatal(err)
		}
		for _, o := range w.files {
			spoilLists(o)
		}
		checkFollows(t, graphs()[i], "A", list)
	}
}

// Nor does one while other names are got: get may tell all in the same memory.
func TestP19_2GetInOneMemory(t *testing.T) {
	for i, w := range graphs() {
		var earlier []api.Object
		get := func(name string) (api.Object, error) {
			for _, o := range earlier {
				spoilLists(o)
			}
			o, err := w.get(name)
			earlier = append(earlier, o)
			return o, err
		}
		list, err := Resolve("A", get, w.has)
		if err != nil {
			t.Fatal(err)
		}
		for _, o := range earlier {
			spoilLists(o)
		}
		checkFollows(t, graphs()[i], "A", list)
	}
}

// What has is asked may change what get told, too.
func TestP19_2HasThatChanges(t *testing.T) {
	for i, w := range graphs() {
		has := func(name string) (uint32, bool) {
			for _, s := range w.got {
				spoilLists(w.files[s])
			}
			return w.has(name)
		}
		list, err := Resolve("A", w.get, has)
		if err != nil {
			t.Fatal(err)
		}
		checkFollows(t, graphs()[i], "A", list)
	}
}

// A change of what was told turns neither what get told nor what is told later.
func TestP19_2WhatIsToldIsNewMemory(t *testing.T) {
	for i, w := range graphs() {
		fresh := graphs()[i]
		first, err := Resolve("A", w.get, w.has)
		second, again := Resolve("A", w.get, w.has)
		if err != nil || again != nil {
			t.Fatal(err, again)
		}
		for _, o := range first {
			spoilLists(o)
		}
		fill(first, module("Spoilt"))
		checkFollows(t, fresh, "A", second)
		for s, o := range w.files {
			if !same(o, fresh.files[s]) {
				t.Fatalf("with what was told %q became %+v", s, o)
			}
		}
		checkOrder(t, w, "A", namesOf(second)...)
		for _, o := range second {
			spoilLists(o)
		}
		checkOrder(t, w, "A", namesOf(second)...)
	}
}

// Objects that share their lists are told with lists of their own, and so is one that is told at each call.
func TestP19_2NothingIsShared(t *testing.T) {
	one := module("A")
	one.Ptrs, one.Procs = []int{3, 5}, nil
	w := having()
	for _, s := range []string{"Ab", "Ac", "Ad"} {
		o := one
		o.Name, o.Key = s, keyOf(s)
		w.files[s] = o
	}
	w.files["A"] = module("A", "Ab", "Ac", "Ad")
	list, err := Resolve("A", w.get, w.has)
	if err != nil || len(list) != 4 {
		t.Fatal(list, err)
	}
	for i, o := range list {
		checkFollows(t, w.load(namesOf(list[:i])...), "A", list[i:])
		spoilLists(o)
	}
	clear(w.loaded)
	checkOrder(t, w, "A", "Ab", "Ac", "Ad", "A")
	// The two lists of one object, too.
	both := module("B")
	both.Ptrs, both.Procs = nil, []int{3, 5, 7}[:2]
	shared := []int{1, 2, 3, 4}
	both.Ptrs, both.Procs = shared[:2], shared[2:]
	list, err = Resolve("B", having(both).get, w.has)
	if err != nil {
		t.Fatal(err)
	}
	_ = append(list[0].Ptrs, 9, 9)
	if !slices.Equal(list[0].Procs, []int{3, 4}) || !slices.Equal(shared, []int{1, 2, 3, 4}) {
		t.Fatalf("with its Ptrs the module became %+v", list[0])
	}
}

// Lists of none stay such: what they have room for is not told.
func TestP19_2ListsOfNone(t *testing.T) {
	o := bare("A")
	full := module("A")
	o.Imports, o.Types, o.Cmds = refs("B")[:0], full.Types[:0], full.Cmds[:0]
	o.Exports, o.Ptrs, o.Procs = full.Exports[:0], full.Ptrs[:0], full.Procs[:0]
	w := having(o)
	list, err := Resolve("A", w.get, w.has)
	if err != nil || len(list) != 1 {
		t.Fatal(list, err)
	}
	told := list[0]
	_ = append(told.Imports, other("Spoilt"))
	_ = append(told.Types, api.Type{Size: 9})
	_ = append(told.Cmds, api.Entry{Name: "Spoilt"})
	_ = append(told.Exports, api.Export{Kind: 9})
	_ = append(append(told.Ptrs, 9), append(told.Procs, 9)...)
	if !same(told, bare("A")) || !same(full, module("A")) || o.Imports[:1][0] != ref("B") {
		t.Fatalf("what was told %+v is shared", told)
	}
}

// Nothing of one call is known to the next one.
func TestR2NothingIsKept(t *testing.T) {
	w := having(module("A", "B"), module("B", "C"), module("C"))
	for range 3 {
		checkOrder(t, w, "A", "C", "B", "A")
		checkOrder(t, w, "B", "C", "B")
		checkOrder(t, w.load("C"), "A", "B", "A")
		w.loaded["C"]++
		checkError(t, w, "A", api.ErrKey, "A", "B")
		delete(w.loaded, "C")
		w.fail("C", api.ErrLarge)
		checkError(t, w, "A", api.ErrLarge, "A", "B", "C")
		delete(w.fails, "C")
		w.files["C"] = module("C", "A")
		checkError(t, w, "A", api.ErrCycle, "A", "B", "C")
		checkError(t, w, "C", api.ErrCycle, "C", "A", "B")
		w.files["C"] = module("C")
	}
	// Nor of one that goes on meanwhile.
	inner := having(module("A", "C"), module("C", "B"), module("B"))
	get := func(name string) (api.Object, error) {
		checkOrder(t, inner, "A", "B", "C", "A")
		return w.get(name)
	}
	list, err := Resolve("A", get, w.has)
	if err != nil {
		t.Fatal(err)
	}
	checkFollows(t, w, "A", list)
}

// has may tell a key beside false: that is none.
func TestP19_1KeysOfWhatIsNotLoaded(t *testing.T) {
	for _, key := range []uint32{0, 7, keyOf("A"), keyOf("B")} {
		has := func(string) (uint32, bool) { return key, false }
		w := having(module("A", "B"), module("B"))
		list, err := Resolve("A", w.get, has)
		if err != nil {
			t.Fatal(err)
		}
		checkFollows(t, w, "A", list)
	}
}

// The chapter has the first error met stand, whatever its place in the list of errors.
func TestR1TheErrorThatIsMet(t *testing.T) {
	// The last one of each pair would be met too, if the first one weren't, and stands ahead of it in the list.
	w := having(importing("A", other("B"), ref("C")), module("B"), module("C", "A"))
	checkError(t, w, "A", api.ErrKey, "A", "B")
	w = having(module("A", "B", "C"), module("B"), module("C", "A")).spoil("B")
	checkError(t, w, "A", api.ErrForm, "A", "B")
	names := line(10)
	w = having(lined(names)...)
	w.files[names[0]] = module(names[0], names[1], "Z1")
	w.files["Z1"] = module("Z1", names[0])
	checkError(t, w, names[0], api.ErrDepth, names[:9]...)
	w.files[names[0]] = module(names[0], "None", names[1])
	checkError(t, w, names[0], api.ErrNone, names[0], "None")
}

func TestR3ZeroBesideErrors(t *testing.T) {
	worlds := map[error]*world{
		api.ErrCycle: having(module("A", "B", "C"), module("B"), module("C", "A")),
		api.ErrForm:  having(module("A", "B", "C"), module("B"), module("C")).spoil("C"),
		api.ErrKey:   having(importing("A", ref("B"), other("C")), module("B"), module("C")),
		api.ErrNone:  having(module("A", "B", "C"), module("B")),
		api.ErrDepth: having(append(lined(line(10)), module("A", "B", "Aa"), module("B"))...),
	}
	for want, w := range worlds {
		list, err := Resolve("A", w.get, w.has)
		if err == nil || err != want || list != nil {
			t.Errorf("Resolve = %q, %v, want %v", namesOf(list), err, want)
		}
	}
	if list, err := Resolve("A", nil, nil); list != nil || err == nil {
		t.Errorf("Resolve = %v, %v", list, err)
	}
}

// far are numbers far beyond all that may be.
var far = []int{math.MinInt, math.MinInt + 1, math.MinInt32, -65536, -2, 1 << 16, 1<<31 - 1, 1 << 31, 1 << 32, 1<<32 + 1, math.MaxInt - 1, math.MaxInt}

func TestP1FarNumbers(t *testing.T) {
	for _, n := range far {
		for _, turn := range []func(o *api.Object){
			func(o *api.Object) { o.Types[0].Size = n },
			func(o *api.Object) { o.Types[0].Mod = n },
			func(o *api.Object) { o.Types[1].Base = n },
			func(o *api.Object) { o.Data = n },
			func(o *api.Object) { o.Cmds[0].At = n },
			func(o *api.Object) { o.Exports[0].At = n },
			func(o *api.Object) { o.Exports[1].Kind = n },
			func(o *api.Object) { o.Ptrs[1] = n },
			func(o *api.Object) { o.Procs[0] = n },
			func(o *api.Object) { o.Fix[0] = n },
			func(o *api.Object) { o.Fix[2] = n },
			func(o *api.Object) { o.Body = n },
		} {
			o := module("B")
			turn(&o)
			w := having(module("A", "B"), o)
			w.wrong["B"]++
			checkError(t, w, "A", api.ErrForm, "A", "B")
			checkError(t, w, "B", api.ErrForm, "B")
		}
	}
}

func TestP1LongLists(t *testing.T) {
	const many = 1 << 20
	o := module("A", "B")
	o.Imports = slices.Repeat(o.Imports, many)
	o.Code = make([]uint32, many)
	o.Text = strings.Repeat("t", many)
	w := having(o)
	w.wrong["A"]++
	checkError(t, w, "A", api.ErrForm, "A")
	long := strings.Repeat("A", many)
	checkError(t, having(), long, api.ErrNone, long)
	checkOrder(t, having().load(long), long)
}

// A get that has a module for each name, which imports three further ones, comes to an end by their depth.
func TestP1FilesWithoutEnd(t *testing.T) {
	got := 0
	get := func(name string) (api.Object, error) {
		got++
		if got > 9 {
			t.Fatalf("%d names were got", got)
		}
		return module(name, name+"a", name+"b", name+"c"), nil
	}
	has := func(string) (uint32, bool) { return 0, false }
	if list, err := Resolve("A", get, has); err != error(api.ErrDepth) || len(list) != 0 || got != 9 {
		t.Fatalf("%v, %v, %d names were got", list, err, got)
	}
}

// Many names, each another one: all are got once, and told behind all that they import.
func TestP1ManyNames(t *testing.T) {
	w := having()
	var grow func(name string, depth int)
	grow = func(name string, depth int) {
		var imports []string
		for i := range 3 {
			if depth < 8 {
				imports = append(imports, name+strconv.Itoa(i))
				grow(imports[i], depth+1)
			}
		}
		w.files[name] = bare(name, imports...)
	}
	grow("A", 0)
	list, err := Resolve("A", w.get, w.has)
	if err != nil || len(list) != 9841 || len(w.got) != 9841 {
		t.Fatalf("%d, %v, %d names were got", len(list), err, len(w.got))
	}
	checkFollows(t, w, "A", list)
}
