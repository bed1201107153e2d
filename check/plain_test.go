package check

import (
	"dowel/api"
	"dowel/chain"
	"fmt"
	"math"
	"reflect"
	"regexp"
	"slices"
	"testing"
)

// far are numbers far beyond all that may be, some with lowest bits that could be one.
var far = []int{
	math.MinInt, math.MinInt + 1, math.MinInt + 4, math.MinInt32, -1 << 32, -1<<32 + 1, -65536, -256, -255, -64, -16, -8, -3, -2,
	300, 1000, 65535, 65536, 1<<31 - 1, 1 << 31, 1 << 32, 1<<32 + 1, 1<<32 + 4, 1<<48 + 3, math.MaxInt - 3, math.MaxInt - 1, math.MaxInt,
}

// around are numbers at both ends of what may be, and beyond.
func around(least, most int) []int {
	return append([]int{least - 1, least, least + 1, (least + most) / 2, most - 1, most, most + 1, most + 2}, far...)
}

// isAmong tells whether a number is one of a range, both ends with it.
func isAmong(n, from, to int) bool { return from <= n && n <= to }

// wordOf is a word of these parts, whether there is such an instruction or not: N is without a sign.
func wordOf(op, a, b, n int) uint32 { return uint32(((op*16+a)*16+b)*(1<<18) + n) }

// link is the word of an instruction that refers to something.
func link(op, down, mod, ent int) uint32 { return wordOf(op, 3, 0, (down*16+mod)*64+ent) }

// other is a word that is in no chain.
const other = 0xFFFFFFFF

// sample has some of each part, and refers to some of each.
func sample() api.Object {
	return api.Object{
		Name:    "List",
		Key:     77,
		Imports: []api.Import{{Name: "A", Key: 5}, {Name: "B2", Key: 6}},
		Types:   []api.Type{{Size: 8, Base: -1}, {Size: 12, Base: 0}, {Size: 256, Mod: 2, Base: 63}},
		Data:    8,
		Text:    "hello",
		Code: []uint32{
			link(api.Call, 0, 1, 3),
			link(api.Set, 0, 15, 5),
			link(api.Set, 0, 0, 2),
			link(api.Set, 0, 0, 0),
			link(api.Call, 4, 0, 0),
			link(api.Set, 4, 0, 1),
			link(api.Set, 4, 2, 63),
			link(api.Set, 2, 0, 3),
			link(api.Call, 4, 2, 63),
			link(api.Set, 2, 15, 0),
			link(api.Set, 4, 0, 5),
			link(api.Set, 2, 1, 0),
			link(api.Call, 4, 0, 3),
			wordOf(api.Go, 15, 0, 0),
			0,
			other,
		},
		Cmds:    []api.Entry{{Name: "Do", At: 3}, {Name: "A", At: 15}},
		Exports: []api.Export{{Kind: 0, At: 2}, {Kind: 1, At: 7}, {Kind: 2, At: 1}, {Kind: 0, At: 0}, {Kind: 1, At: 0}, {Kind: 2, At: 2}, {Kind: 2, At: 0}},
		Ptrs:    []int{0, 5, 6},
		Procs:   []int{1, 7},
		Fix:     [3]int{13, 12, 11},
		Body:    14,
	}
}

// sampleRefs are what the sample's chains mean, written out by hand.
func sampleRefs() [3][]chain.Ref {
	return [3][]chain.Ref{
		{{At: 12, Mod: 0, Ent: 3}, {At: 8, Mod: 2, Ent: 63}, {At: 4, Mod: 0, Ent: 0}, {At: 0, Mod: 1, Ent: 3}},
		{{At: 11, Mod: 1, Ent: 0}, {At: 9, Mod: 15, Ent: 0}, {At: 7, Mod: 0, Ent: 3}, {At: 5, Mod: 0, Ent: 1}, {At: 1, Mod: 15, Ent: 5}},
		{{At: 10, Mod: 0, Ent: 5}, {At: 6, Mod: 2, Ent: 63}, {At: 2, Mod: 0, Ent: 2}},
	}
}

// bare is a least module: a name, and one word.
func bare() api.Object { return api.Object{Name: "M", Code: []uint32{other}} }

// copyOf is the same object with lists of its own.
func copyOf(o api.Object) api.Object {
	o.Imports = slices.Clone(o.Imports)
	o.Types = slices.Clone(o.Types)
	o.Code = slices.Clone(o.Code)
	o.Cmds = slices.Clone(o.Cmds)
	o.Exports = slices.Clone(o.Exports)
	o.Ptrs = slices.Clone(o.Ptrs)
	o.Procs = slices.Clone(o.Procs)
	return o
}

var pattern = regexp.MustCompile(`\A[a-zA-Z][a-zA-Z0-9]{0,15}\z`)

// allNames tells whether all are names, each another one.
func allNames(list []string) bool {
	met := map[string]int{}
	for _, s := range list {
		met[s]++
		if !pattern.MatchString(s) || met[s] > 1 {
			return false
		}
	}
	return true
}

func point1(o api.Object) bool {
	var modules, cmds []string
	for _, i := range o.Imports {
		modules = append(modules, i.Name)
	}
	for _, c := range o.Cmds {
		cmds = append(cmds, c.Name)
	}
	return len(modules) <= 8 && len(cmds) <= 8 && allNames(append(modules, o.Name)) && allNames(cmds)
}

func point2(o api.Object) bool {
	return isAmong(o.Data, 0, 64) && isAmong(len(o.Text), 0, 60) && isAmong(len(o.Code), 1, 256)
}

func point3(o api.Object) bool {
	sizes := []int{}
	for size := 0; size <= 256; size += 4 {
		sizes = append(sizes, size)
	}
	for i, t := range o.Types {
		none := t.Base == -1 && t.Mod == 0
		own := t.Mod == 0 && isAmong(t.Base, 0, i-1)
		imported := isAmong(t.Mod, 1, len(o.Imports)) && isAmong(t.Base, 0, 63)
		if !slices.Contains(sizes, t.Size) || !none && !own && !imported {
			return false
		}
	}
	return len(o.Types) <= 8
}

func point4(o api.Object) bool {
	for _, c := range o.Cmds {
		if !isAmong(c.At, 0, len(o.Code)-1) {
			return false
		}
	}
	counts := map[int]int{0: len(o.Code), 1: o.Data, 2: len(o.Types)}
	for _, e := range o.Exports {
		count, is := counts[e.Kind]
		if !is || !isAmong(e.At, 0, count-1) {
			return false
		}
	}
	return len(o.Exports) <= 64
}

func point5(o api.Object) bool {
	declared := map[int]bool{}
	for _, list := range [][]int{o.Ptrs, o.Procs} {
		for i, word := range list {
			if !isAmong(word, 0, o.Data-1) || declared[word] || i > 0 && word < list[i-1] {
				return false
			}
			declared[word] = true
		}
	}
	return len(o.Ptrs) <= 16 && len(o.Procs) <= 16
}

func point6(o api.Object) bool { return isAmong(o.Body, 0, len(o.Code)) }

// walk is chapter 13's way, in plain numbers, for Set and Call, whose N may be any.
func walk(code []uint32, head, op int) ([]chain.Ref, bool) {
	refs := []chain.Ref{}
	if head == 0 {
		return refs, true
	}
	for at := head - 1; ; {
		if !isAmong(at, 0, len(code)-1) {
			return nil, false
		}
		w := int(code[at])
		if w>>26 != op || w>>18&15 != 0 {
			return nil, false
		}
		refs = append(refs, chain.Ref{At: at, Mod: w >> 6 & 15, Ent: w & 63})
		if w>>10&255 == 0 {
			return refs, true
		}
		at -= w >> 10 & 255
	}
}

// meant tells whether there is what is meant, by a table of kinds.
func meant(o api.Object, which int, r chain.Ref) bool {
	kinds := [3][]int{{0}, {0, 1}, {2}}[which]
	switch {
	case r.Mod == 0:
		return r.Ent < len(o.Exports) && slices.Contains(kinds, o.Exports[r.Ent].Kind)
	case r.Mod == 15:
		return which == 1 && r.Ent <= len(o.Text)
	}
	return r.Mod <= len(o.Imports)
}

func point7(o api.Object) ([3][]chain.Ref, bool) {
	var refs [3][]chain.Ref
	met := map[int]bool{}
	for which, op := range []int{20, 1, 1} {
		walked, ok := walk(o.Code, o.Fix[which], op)
		if !ok {
			return refs, false
		}
		for _, r := range walked {
			if met[r.At] || !meant(o, which, r) {
				return refs, false
			}
			met[r.At] = true
		}
		refs[which] = walked
	}
	return refs, true
}

// broken are the numbers of the chapter's points that are not so; with none, what the chains mean.
func broken(o api.Object) ([]int, [3][]chain.Ref) {
	var numbers []int
	for i, point := range []func(api.Object) bool{point1, point2, point3, point4, point5, point6} {
		if !point(o) {
			numbers = append(numbers, i+1)
		}
	}
	refs, ok := point7(o)
	if !ok {
		numbers = append(numbers, 7)
	}
	return numbers, refs
}

// brief is the beginning of what an object has.
func brief(o api.Object) string {
	s := fmt.Sprintf("%+v", o)
	return s[:min(len(s), 900)]
}

func sameRefs(a, b [3][]chain.Ref) bool {
	return slices.Equal(a[0], b[0]) && slices.Equal(a[1], b[1]) && slices.Equal(a[2], b[2])
}

// checkPlain holds both calls against the chapter's points, and what is handed in against what it was. It tells what is broken.
func checkPlain(t *testing.T, o api.Object) []int {
	t.Helper()
	numbers, want := broken(o)
	before := copyOf(o)
	valid := Valid(o)
	refs, ok := Refs(o)
	if !reflect.DeepEqual(o, before) {
		t.Fatalf("what was handed in is changed: %s", brief(o))
	}
	may := len(numbers) == 0
	if valid != may || ok != may {
		t.Fatalf("Valid and Refs tell %v and %v, but points %v are broken: %s", valid, ok, numbers, brief(o))
	}
	if !may {
		want = [3][]chain.Ref{}
	}
	if !sameRefs(refs, want) {
		t.Fatalf("Refs = %v, want %v", refs, want)
	}
	return numbers
}

// checkMay asks for what may be a module.
func checkMay(t *testing.T, o api.Object) {
	t.Helper()
	if numbers := checkPlain(t, o); len(numbers) != 0 {
		t.Fatalf("points %v are broken: %s", numbers, brief(o))
	}
}

// checkBreaks asks for what breaks just that point.
func checkBreaks(t *testing.T, o api.Object, point int) {
	t.Helper()
	if numbers := checkPlain(t, o); !slices.Equal(numbers, []int{point}) {
		t.Fatalf("points %v are broken, not %d: %s", numbers, point, brief(o))
	}
}

// checkOne asks for what may be a module, or else breaks just that point.
func checkOne(t *testing.T, o api.Object, may bool, point int) {
	t.Helper()
	if may {
		checkMay(t, o)
	} else {
		checkBreaks(t, o, point)
	}
}
