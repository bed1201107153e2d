package order

import (
	"dowel/api"
	"slices"
	"strconv"
	"strings"
	"testing"
)

func TestP19_1Example(t *testing.T) {
	checkError(t, having(module("A", "B"), module("B", "A")), "A", api.ErrCycle, "A", "B")
	checkError(t, having(module("A", "B"), module("B", "A")), "B", api.ErrCycle, "B", "A")
}

func TestP19_1FunctionsThatAreNone(t *testing.T) {
	for _, s := range []string{"A", "B", "C", "None", "", "\xff"} {
		w := having(module("A", "B"), module("B")).load("C", "")
		for i, both := range []struct {
			get Get
			has Has
		}{{nil, nil}, {w.get, nil}, {nil, w.has}} {
			list, err := Resolve(s, both.get, both.has)
			if err == nil || err != error(api.ErrArg) || len(list) != 0 {
				t.Errorf("%d: Resolve(%q) = %v, %v", i, s, list, err)
			}
		}
		if len(w.got) != 0 {
			t.Errorf("%q was got", w.got)
		}
	}
}

func TestP19_1LoadedAlready(t *testing.T) {
	w := having(module("A", "B"), module("B")).load("A", "B", "None", "", "\xff\x00")
	for _, s := range []string{"A", "B", "None", "", "\xff\x00"} {
		for _, key := range []uint32{0, 1, keyOf(s), 1<<32 - 1} {
			w.loaded[s] = key
			checkOrder(t, w, s)
			if len(w.got) != 0 {
				t.Errorf("%q was got", w.got)
			}
		}
	}
	// Whether there is a file, and which one, is of no matter then.
	w.spoil("A").fail("B", api.ErrForm)
	checkOrder(t, w, "A")
	checkOrder(t, w, "B")
	w.files["A"] = module("B", "A")
	checkOrder(t, w, "A")
}

func TestP19_1NoImports(t *testing.T) {
	for _, s := range []string{"A", "z9", "List", "abcdefghijklmnop"} {
		checkOrder(t, having(module(s)), s, s)
		checkOrder(t, having(bare(s)), s, s)
		checkOrder(t, having(module(s), module("B", s), module("C")).load("B", "C"), s, s)
	}
}

func TestP19_1NoFile(t *testing.T) {
	checkError(t, having(), "A", api.ErrNone, "A")
	checkError(t, having(module("A"), module("B")), "a", api.ErrNone, "a")
	checkError(t, having(module("A", "B")), "A", api.ErrNone, "A", "B")
	checkError(t, having(module("A", "B", "C"), module("B")), "A", api.ErrNone, "A", "B", "C")
	checkError(t, having(module("A", "B", "C"), module("B")).load("C"), "C1", api.ErrNone, "C1")
}

func TestP19_1NamesThatAreNone(t *testing.T) {
	for _, s := range []string{"", " ", "1", "A ", "A.B", "é", "\xff", "A\x00", "abcdefghijklmnopq", strings.Repeat("A", 100000)} {
		checkError(t, having(module("A")), s, api.ErrNone, s)
		checkError(t, having().fail(s, api.ErrName), s, api.ErrName, s)
		// get may tell something for any name, but no such name is a module's.
		w := having(module("A"))
		for _, name := range []string{s, "A"} {
			o := bare("A")
			o.Name = name
			w.files[s] = o
			w.wrong[s] = 1
			checkError(t, w, s, api.ErrForm, s)
		}
		checkOrder(t, w.load(s), s)
	}
}

func TestP19_1Imports(t *testing.T) {
	checkOrder(t, having(module("A", "B"), module("B")), "A", "B", "A")
	checkOrder(t, having(module("A", "B", "C"), module("B"), module("C")), "A", "B", "C", "A")
	checkOrder(t, having(module("A", "C", "B"), module("B"), module("C")), "A", "C", "B", "A")
	checkOrder(t, having(module("A", "B", "C"), module("B", "C"), module("C")), "A", "C", "B", "A")
	checkOrder(t, having(module("A", "B", "C"), module("B"), module("C", "B")), "A", "B", "C", "A")
	checkOrder(t, having(module("A", "B", "C"), module("B", "D"), module("C", "E"), module("D"), module("E")), "A", "D", "B", "E", "C", "A")
	many := []string{"I8", "I3", "I1", "I7", "I2", "I6", "I5", "I4"}
	w := having(module("A", many...))
	for _, s := range many {
		w.files[s] = module(s)
	}
	checkOrder(t, w, "A", append(slices.Clone(many), "A")...)
	checkOrder(t, w.load("I8", "I7", "I4"), "A", "I3", "I1", "I2", "I6", "I5", "A")
	checkOrder(t, w.load(many...), "A", "A")
}

func TestP19_1Loaded(t *testing.T) {
	// Of what is loaded nothing is got, nor of what that alone imports.
	w := having(module("A", "B", "C"), module("B", "D"), module("C"), module("D", "E"), module("E"))
	checkOrder(t, w, "A", "E", "D", "B", "C", "A")
	checkOrder(t, w.load("D"), "A", "B", "C", "A")
	if !slices.Equal(w.got, []string{"A", "B", "C"}) {
		t.Errorf("%q were got", w.got)
	}
	checkOrder(t, w.load("B"), "A", "C", "A")
	w.spoil("B").fail("D", api.ErrNone)
	delete(w.files, "E")
	checkOrder(t, w, "A", "C", "A")
	checkOrder(t, w.load("C"), "A", "A")
	checkOrder(t, w, "D")
}

// A chain may have one module at each depth from 0 to MaxDepth.
func TestP19_1Depth(t *testing.T) {
	for count := 1; count <= 14; count++ {
		names := line(count)
		w := having(lined(names)...)
		if count <= 9 {
			checkOrder(t, w, names[0], reversed(names)...)
			continue
		}
		checkError(t, w, names[0], api.ErrDepth, names[:9]...)
		for from := range names {
			if count-from <= 9 {
				checkOrder(t, w, names[from], reversed(names[from:])...)
			} else {
				checkError(t, w, names[from], api.ErrDepth, names[from:from+9]...)
			}
		}
	}
}

func TestP19_1DepthWithLoaded(t *testing.T) {
	for count := 1; count <= 14; count++ {
		names := line(count)
		for at := range names {
			w := having(lined(names)...).load(names[at])
			switch {
			case at == 0:
				checkOrder(t, w, names[0])
			case at <= 9:
				// What is loaded is nothing, at a depth that is too great, too.
				checkOrder(t, w, names[0], reversed(names[:at])...)
			default:
				checkError(t, w, names[0], api.ErrDepth, names[:9]...)
			}
		}
	}
}

// The first module imports one further down, too, ahead of the next one or behind it.
func TestP19_1DepthWithResolved(t *testing.T) {
	for count := 3; count <= 20; count++ {
		names := line(count)
		for at := 2; at < count; at++ {
			w := having(lined(names)...)
			w.files[names[0]] = module(names[0], names[at], names[1])
			switch {
			case count-at > 8:
				checkError(t, w, names[0], api.ErrDepth, append(names[:1:1], names[at:at+8]...)...)
			case at <= 9:
				// The one that was resolved is nothing, at depth 9, too.
				want := slices.Concat(reversed(names[at:]), reversed(names[1:at]), names[:1])
				checkOrder(t, w, names[0], want...)
			default:
				got := slices.Concat(names[:1], names[at:], names[1:9])
				checkError(t, w, names[0], api.ErrDepth, got...)
			}
			w.files[names[0]] = module(names[0], names[1], names[at])
			if count <= 9 {
				checkOrder(t, w, names[0], reversed(names)...)
			} else {
				checkError(t, w, names[0], api.ErrDepth, names[:9]...)
			}
		}
	}
}

func TestP19_1TheSameNameAtSeveralDepths(t *testing.T) {
	// At first E comes too deep; where it is resolved ahead of that, it doesn't.
	names := line(9)
	last := names[8]
	for _, first := range [][]string{{names[1], "E"}, {"E", names[1]}} {
		w := having(append(lined(names, "E"), module("E"))...)
		w.files[names[0]] = module(names[0], first...)
		if first[0] == "E" {
			checkOrder(t, w, names[0], slices.Concat([]string{"E"}, reversed(names))...)
		} else {
			checkError(t, w, names[0], api.ErrDepth, names...)
		}
		checkOrder(t, w.load("E"), names[0], reversed(names)...)
		checkOrder(t, w, last, last)
	}
}

// The last one of a line imports one on the way again, the first one or one in the midst.
func TestP19_1Cycles(t *testing.T) {
	for count := 2; count <= 12; count++ {
		names := line(count)
		for to := range count - 1 {
			w := having(lined(names, names[to])...)
			if count <= 9 {
				checkError(t, w, names[0], api.ErrCycle, names...)
			} else {
				checkError(t, w, names[0], api.ErrDepth, names[:9]...)
			}
			// Begun at another one of the cycle, it comes back to that one.
			for from := to; from < count; from++ {
				if size := count - to; size <= 9 {
					checkError(t, w, names[from], api.ErrCycle, slices.Concat(names[from:], names[to:from])...)
				} else {
					checkError(t, w, names[from], api.ErrDepth, slices.Concat(names[from:], names[to:from])[:9]...)
				}
			}
		}
	}
}

// A cycle is none, where one of it is loaded.
func TestP19_1CyclesWithLoaded(t *testing.T) {
	names := line(6)
	for at := range names {
		w := having(lined(names, names[0])...).load(names[at])
		for from := range names {
			var want []string
			for i := from; i%6 != at; i++ {
				want = append(want, names[i%6])
			}
			checkOrder(t, w, names[from], reversed(want)...)
		}
	}
}

// What is under way is only what leads down to a name, not what was resolved ahead of it.
func TestP19_1WhatWasResolvedIsNotUnderWay(t *testing.T) {
	w := having(module("A", "B", "C", "D"), module("B", "E"), module("C", "B", "E"), module("D", "C", "B", "E"), module("E"))
	checkOrder(t, w, "A", "E", "B", "C", "D", "A")
	w.files["D"] = module("D", "C", "A")
	checkError(t, w, "A", api.ErrCycle, "A", "B", "E", "C", "D")
	w.files["D"] = module("D", "C", "F")
	w.files["F"] = module("F", "B", "D")
	checkError(t, w, "A", api.ErrCycle, "A", "B", "E", "C", "D", "F")
}

func TestP19_1OneThatImportsItself(t *testing.T) {
	for _, o := range []api.Object{module("A", "A"), module("A", "B", "A"), module("A", "A", "B"), bare("A", "A")} {
		w := having(o, module("B"))
		w.wrong["A"]++
		checkError(t, w, "A", api.ErrForm, "A")
		checkOrder(t, w.load("A"), "A")
	}
	w := having(module("C", "A"), module("A", "A"))
	w.wrong["A"]++
	checkError(t, w, "C", api.ErrForm, "C", "A")
}

func TestP19_1Diamonds(t *testing.T) {
	w := having(module("A", "B", "C"), module("B", "D"), module("C", "D"), module("D"))
	checkOrder(t, w, "A", "D", "B", "C", "A")
	if !slices.Equal(w.got, []string{"A", "B", "D", "C"}) {
		t.Errorf("%q were got", w.got)
	}
	checkOrder(t, w.load("D"), "A", "B", "C", "A")
	checkOrder(t, w.load("B"), "A", "C", "A")
}

// All of a level import all of the next one: each is got once, though there are 8 to the 8th ways.
func TestP19_1Lattice(t *testing.T) {
	w := having()
	var levels [9][]string
	for depth := range levels {
		for i := range 8 {
			levels[depth] = append(levels[depth], "L"+strconv.Itoa(depth)+"x"+strconv.Itoa(i))
		}
	}
	for depth, level := range levels {
		for _, s := range level {
			if depth < 8 {
				w.files[s] = module(s, levels[depth+1]...)
			} else {
				w.files[s] = module(s)
			}
		}
	}
	list, err := Resolve("L0x3", w.get, w.has)
	if err != nil || len(list) != 65 {
		t.Fatalf("%d, %v", len(list), err)
	}
	checkFollows(t, w, "L0x3", list)
	slices.Sort(w.got)
	if once := slices.Compact(slices.Clone(w.got)); len(once) != 65 || len(w.got) != 65 {
		t.Fatalf("%d names were got, %d of them once", len(w.got), len(once))
	}
	checkError(t, w.fail("L8x7", api.ErrLarge), "L1x0", api.ErrLarge, w.gotFrom("L1x0")...)
}

// gotFrom are the names that the plain words get.
func (w *world) gotFrom(s string) []string { return plain{}.behind(w, s, 0, nil).got }

func TestP19_1ManyThatImportOne(t *testing.T) {
	names := line(8)
	w := having(module("A", names...), module("One"))
	for _, s := range names {
		w.files[s] = module(s, "One")
	}
	checkOrder(t, w, "A", slices.Concat([]string{"One", names[0]}, names[1:], []string{"A"})...)
	if !slices.Equal(w.got, slices.Concat([]string{"A", names[0], "One"}, names[1:])) {
		t.Errorf("%q were got", w.got)
	}
	checkOrder(t, w.load("One"), "A", append(names, "A")...)
}

func TestP19_1FilesOfAnotherName(t *testing.T) {
	for _, other := range []string{"B", "a", "AA", "C", "A1"} {
		w := having(module("B"), module("C", "A"))
		w.files["A"] = module(other, "B")
		checkError(t, w, "A", api.ErrForm, "A")
		checkError(t, w, "C", api.ErrForm, "C", "A")
		checkOrder(t, w.load("A"), "C", "C")
	}
	// Nor is it one of the name that it has.
	w := having(module("C", "A"))
	w.files["A"] = module("C")
	checkError(t, w, "C", api.ErrForm, "C", "A")
	w.files["C"] = module("A")
	checkError(t, w, "C", api.ErrForm, "C")
}
