package plan

import (
	"dowel/api"
	"fmt"
	"math"
	"reflect"
	"slices"
	"strings"
	"testing"
)

// far are numbers far beyond all that there can be in a block.
var far = []int{
	math.MinInt, math.MinInt + 1, math.MinInt + 4, math.MinInt/4 - 1, math.MinInt / 4, math.MinInt / 16, math.MinInt32, -1 << 32, -65536, -256, -64, -4, -3, -2, -1,
	65, 257, 65536, 1<<31 - 1, 1 << 31, 1 << 32, 1<<32 + 1, 1<<48 + 3, 1 << 58, 1 << 60, 1 << 61, 1 << 62, math.MaxInt - 3, math.MaxInt - 1, math.MaxInt,
}

// What a byte of a block may be of, beside what the Kinds name.
const (
	ofText  = 3
	ofZeros = 4
)

// place tells what a byte of a block is of: which part, and which one of it.
type place struct{ part, number int }

// block is a block, byte by byte, as the chapter tells it.
func block(o api.Object) []place {
	var b []place
	for i := 0; i < o.Data; i++ {
		b = append(b, slices.Repeat([]place{{api.Var, i}}, 4)...)
	}
	for i := range o.Types {
		b = append(b, slices.Repeat([]place{{api.Rec, i}}, 16)...)
	}
	for i := range []byte(o.Text) {
		b = append(b, place{ofText, i})
	}
	for len(b)%4 != 0 {
		b = append(b, place{ofZeros, 0})
	}
	for i := range o.Code {
		b = append(b, slices.Repeat([]place{{api.Proc, i}}, 4)...)
	}
	return b
}

// behind is how many bytes of a block are of these parts.
func behind(b []place, parts ...int) int {
	count := 0
	for _, p := range b {
		if slices.Contains(parts, p.part) {
			count++
		}
	}
	return count
}

// plain is a plan, counted byte by byte.
func plain(b []place) Plan {
	return Plan{
		Types: behind(b, api.Var),
		Text:  behind(b, api.Var, api.Rec),
		Code:  behind(b, api.Var, api.Rec, ofText, ofZeros),
		Size:  len(b),
	}
}

// plainExport is where an export is: where its first byte is in the block, or would be, if its part went on there.
func plainExport(b []place, exports []api.Export, n int) (int, bool) {
	for i, e := range exports {
		if i != n || e.Kind != api.Proc && e.Kind != api.Var && e.Kind != api.Rec {
			continue
		}
		if at := slices.Index(b, place{e.Kind, e.At}); at >= 0 {
			return at, true
		}
		p := plain(b)
		begin := map[int]int{api.Var: 0, api.Rec: p.Types, api.Proc: p.Code}[e.Kind]
		bytes := map[int]int{api.Var: 4, api.Rec: 16, api.Proc: 4}[e.Kind]
		return begin + bytes*e.At, true
	}
	return 0, false
}

// copyOf is the same object with lists of its own.
func copyOf(o api.Object) api.Object {
	o.Imports = slices.Clone(o.Imports)
	o.Types = slices.Clone(o.Types)
	o.Code = slices.Clone(o.Code)
	o.Cmds = slices.Clone(o.Cmds)
	o.Exports = slices.Clone(o.Exports)
	o.Ptrs = slices.Clone(o.Ptrs)
	o.Procs = slices.Clone(o.Procs)
	return o
}

// brief is the beginning of what an object has.
func brief(o api.Object) string {
	s := fmt.Sprintf("%+v", o)
	return s[:min(len(s), 900)]
}

// checkPlan asks for an object's plan.
func checkPlan(t *testing.T, o api.Object, want Plan) {
	t.Helper()
	if p := Of(o); p != want {
		t.Fatalf("Of = %+v, want %+v: %s", p, want, brief(o))
	}
}

// checkExport asks for where an export is.
func checkExport(t *testing.T, o api.Object, n, want int) {
	t.Helper()
	if at, ok := Export(o, n); at != want || !ok {
		t.Fatalf("Export %d = %d, %v, want %d, true: %s", n, at, ok, want, brief(o))
	}
}

// checkNone asks for an export that there isn't.
func checkNone(t *testing.T, o api.Object, n int) {
	t.Helper()
	if at, ok := Export(o, n); at != 0 || ok {
		t.Fatalf("Export %d = %d, %v, want 0, false: %s", n, at, ok, brief(o))
	}
}

// checkPlain holds both calls against the block, byte by byte, and what is handed in against what it was.
func checkPlain(t *testing.T, o api.Object) {
	t.Helper()
	before := copyOf(o)
	b := block(o)
	checkPlan(t, o, plain(b))
	for n := -2; n < len(o.Exports)+3; n++ {
		if want, ok := plainExport(b, o.Exports, n); ok {
			checkExport(t, o, n, want)
		} else {
			checkNone(t, o, n)
		}
	}
	if !reflect.DeepEqual(o, before) {
		t.Fatalf("what was handed in is changed: %s", brief(o))
	}
}

// sized is an object of so much of each part.
func sized(data, types, text, code int) api.Object {
	return api.Object{Data: data, Types: make([]api.Type, types), Text: strings.Repeat("a", text), Code: make([]uint32, code)}
}

// sample has some of each part: 5 data words, 3 types, a text of 7, and 6 words of code.
func sample() api.Object {
	return api.Object{
		Name:    "List",
		Key:     77,
		Imports: []api.Import{{Name: "A", Key: 5}, {Name: "B2", Key: 6}},
		Types:   []api.Type{{Size: 8, Base: -1}, {Size: 12, Base: 0}, {Size: 256, Mod: 2, Base: 63}},
		Data:    5,
		Text:    "hello, ",
		Code:    []uint32{1 << 31, 2, 3, 0, 5, 1<<32 - 1},
		Cmds:    []api.Entry{{Name: "Do", At: 3}, {Name: "A", At: 5}},
		Exports: []api.Export{{Kind: api.Rec, At: 2}, {Kind: api.Proc, At: 1}, {Kind: api.Var, At: 4}, {Kind: api.Proc, At: 5}, {Kind: api.Rec, At: 0}, {Kind: api.Var, At: 0}, {Kind: api.Proc, At: 0}},
		Ptrs:    []int{0, 3},
		Procs:   []int{1, 4},
		Body:    4,
	}
}

// samplePlaces are where the sample's exports are, worked out by hand: data from 0, types from 20, the text from 68, code from 76.
func samplePlaces() []int { return []int{52, 80, 16, 96, 20, 0, 76} }
