package plan

import (
	"dowel/api"
	"math"
	"reflect"
	"slices"
	"strings"
	"testing"
)

// roomy is the sample, whose lists all have room for more behind their ends.
func roomy() api.Object {
	o := sample()
	o.Imports = slices.Grow(o.Imports, 9)
	o.Types = slices.Grow(o.Types, 9)
	o.Code = slices.Grow(o.Code, 300)
	o.Cmds = slices.Grow(o.Cmds, 9)
	o.Exports = slices.Grow(o.Exports, 70)
	o.Ptrs = slices.Grow(o.Ptrs, 20)
	o.Procs = slices.Grow(o.Procs, 20)
	return o
}

// whole is the object with all that its lists have room for.
func whole(o api.Object) api.Object {
	o.Imports = o.Imports[:cap(o.Imports)]
	o.Types = o.Types[:cap(o.Types)]
	o.Code = o.Code[:cap(o.Code)]
	o.Cmds = o.Cmds[:cap(o.Cmds)]
	o.Exports = o.Exports[:cap(o.Exports)]
	o.Ptrs = o.Ptrs[:cap(o.Ptrs)]
	o.Procs = o.Procs[:cap(o.Procs)]
	return o
}

func TestR2WhatIsHandedInStays(t *testing.T) {
	o := roomy()
	before := copyOf(whole(o))
	Of(o)
	for n := -1; n <= len(o.Exports); n++ {
		Export(o, n)
	}
	if !reflect.DeepEqual(whole(o), before) {
		t.Errorf("what was handed in is changed: %s", brief(o))
	}
}

// Nothing is kept: the same is told again, whatever was asked between.
func TestR2NothingIsKept(t *testing.T) {
	o := sample()
	for _, other := range []api.Object{{}, sized(64, 8, 60, 256), sized(-1, 0, 1, 0)} {
		other.Exports = []api.Export{{Kind: api.Proc, At: 9}}
		Of(other)
		Export(other, 0)
		checkPlan(t, o, Plan{20, 68, 76, 100})
		for n, want := range samplePlaces() {
			Export(other, n)
			checkExport(t, o, n, want)
		}
	}
	o.Data, o.Types, o.Text, o.Code = 0, nil, "", nil
	checkPlan(t, o, Plan{})
	o.Exports[0] = api.Export{Kind: api.Var, At: 1}
	checkExport(t, o, 0, 4)
}

// With false nothing else is told, however much the object has.
func TestR3ZeroWithFalse(t *testing.T) {
	o := sized(64, 8, 60, 256)
	o.Exports = []api.Export{{Kind: 3, At: 200}, {Kind: -1, At: 200}, {Kind: api.Proc, At: 200}}
	for _, n := range []int{0, 1, 3, -1, math.MinInt, math.MaxInt} {
		checkNone(t, o, n)
	}
	checkExport(t, o, 2, 1244)
}

// settersOfNumbers set one number each of the sample.
func settersOfNumbers() []func(o *api.Object, n int) {
	l := []func(o *api.Object, n int){
		func(o *api.Object, n int) { o.Data = n }, func(o *api.Object, n int) { o.Body = n },
		func(o *api.Object, n int) { o.Ptrs[0], o.Procs[0], o.Cmds[0].At = n, n, n },
	}
	for i := range 3 {
		l = append(l, func(o *api.Object, n int) { o.Fix[i] = n }, func(o *api.Object, n int) { o.Types[i] = api.Type{Size: n, Mod: n, Base: n} })
	}
	for i := range 7 {
		l = append(l, func(o *api.Object, n int) { o.Exports[i].Kind = n }, func(o *api.Object, n int) { o.Exports[i].At = n })
	}
	return l
}

// None panics, and what there is is told whatever the numbers are.
func TestP1FarNumbersInEachPart(t *testing.T) {
	for _, set := range settersOfNumbers() {
		for _, also := range settersOfNumbers() {
			for _, n := range far {
				o := sample()
				set(&o, n)
				also(&o, far[0])
				Of(o)
				for number, e := range o.Exports {
					if _, ok := Export(o, number); ok != (e.Kind >= 0 && e.Kind <= 2) {
						t.Fatalf("Export %d tells %v: %s", number, ok, brief(o))
					}
				}
				for _, number := range far {
					checkNone(t, o, number)
				}
			}
		}
	}
}

// Long lists and texts are no reason to take long.
func TestP1LongLists(t *testing.T) {
	const many = 1 << 20
	o := sized(many, many, many+1, many)
	o.Name, o.Exports = strings.Repeat("a", many), make([]api.Export, many)
	o.Exports[many-1] = api.Export{Kind: api.Rec, At: many - 1}
	checkPlan(t, o, Plan{4 * many, 20 * many, 21*many + 4, 25*many + 4})
	checkExport(t, o, 0, 21*many+4)
	checkExport(t, o, many-1, 20*many-16)
	checkNone(t, o, many)
	for n := range many {
		Export(o, n)
	}
}
