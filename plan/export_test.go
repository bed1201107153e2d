package plan

import (
	"dowel/api"
	"math"
	"slices"
	"testing"
)

func TestP15_1ExportsByHand(t *testing.T) {
	o := sample()
	for n, want := range samplePlaces() {
		checkExport(t, o, n, want)
	}
	// The chapter's example, with code: data at 0, types from 4, the text from 20, code from 28.
	o = api.Object{Data: 1, Types: make([]api.Type, 1), Text: "hello", Code: make([]uint32, 3), Exports: []api.Export{
		{Kind: api.Proc, At: 0}, {Kind: api.Proc, At: 2}, {Kind: api.Var, At: 0}, {Kind: api.Rec, At: 0}, {Kind: api.Proc, At: 1},
	}}
	for n, want := range []int{28, 36, 0, 4, 32} {
		checkExport(t, o, n, want)
	}
}

func TestP15_1ExportsNumbers(t *testing.T) {
	wrong := []int{math.MinInt, math.MinInt + 1, math.MinInt32, -1 << 32, -65536, -256, -64, -7, -2, -1}
	beyond := []int{0, 1, 2, 63, 64, 65, 255, 256, 65536, 1<<31 - 1, 1 << 31, 1 << 32, 1<<32 + 1, math.MaxInt/2 + 1, math.MaxInt - 1, math.MaxInt}
	for count := range 66 {
		o := sample()
		o.Exports = slices.Repeat([]api.Export{{Kind: api.Var, At: 3}}, count)
		for n := range count {
			checkExport(t, o, n, 12)
		}
		for _, n := range append(slices.Clone(wrong), beyond...) {
			if n < 0 || n >= count {
				checkNone(t, o, n)
			}
		}
		checkNone(t, o, count)
		checkNone(t, o, -count-1)
	}
	for _, exports := range [][]api.Export{nil, {}} {
		o := sample()
		o.Exports = exports
		for _, n := range append(slices.Clone(wrong), beyond...) {
			checkNone(t, o, n)
			checkNone(t, api.Object{Exports: exports}, n)
		}
	}
}

// What lies behind a list's end, within its capacity, is no export.
func TestP15_1ExportsBehindTheEnd(t *testing.T) {
	o := sample()
	all := o.Exports
	for count := range all {
		o.Exports = all[:count]
		for n := range all {
			if n < count {
				checkExport(t, o, n, samplePlaces()[n])
			} else {
				checkNone(t, o, n)
			}
		}
	}
}

func TestP15_1EachKindsPlaces(t *testing.T) {
	// Data from 0 to 256, types to 384, the text to 444, code to 1468.
	o := sized(64, 8, 60, 256)
	for _, c := range []struct{ kind, at, want int }{
		{api.Var, 0, 0}, {api.Var, 1, 4}, {api.Var, 32, 128}, {api.Var, 63, 252},
		{api.Rec, 0, 256}, {api.Rec, 1, 272}, {api.Rec, 4, 320}, {api.Rec, 7, 368},
		{api.Proc, 0, 444}, {api.Proc, 1, 448}, {api.Proc, 128, 956}, {api.Proc, 255, 1464},
	} {
		o.Exports = []api.Export{{Kind: c.kind, At: c.at}}
		checkExport(t, o, 0, c.want)
	}
	for at := range 256 {
		o.Exports = []api.Export{{Kind: api.Proc, At: at}, {Kind: api.Var, At: at % 64}, {Kind: api.Rec, At: at % 8}}
		checkExport(t, o, 0, 444+4*at)
		checkExport(t, o, 1, at%64*4)
		checkExport(t, o, 2, 256+at%8*16)
	}
}

// Where there is nothing ahead of a part, it begins at 0.
func TestP15_1KindsAlone(t *testing.T) {
	for _, c := range []struct {
		o    api.Object
		kind int
		want []int
	}{
		{sized(3, 0, 0, 0), api.Var, []int{0, 4, 8}},
		{sized(0, 3, 0, 0), api.Rec, []int{0, 16, 32}},
		{sized(0, 0, 0, 3), api.Proc, []int{0, 4, 8}},
		{sized(0, 0, 1, 3), api.Proc, []int{4, 8, 12}},
		{sized(0, 1, 0, 3), api.Proc, []int{16, 20, 24}},
		{sized(1, 0, 0, 3), api.Proc, []int{4, 8, 12}},
		{sized(1, 3, 0, 0), api.Rec, []int{4, 20, 36}},
		{sized(-1, 3, 5, 2), api.Rec, []int{0, 16, 32}},
		{sized(math.MinInt, 3, 5, 2), api.Proc, []int{56, 60}},
	} {
		for at, want := range c.want {
			c.o.Exports = []api.Export{{Kind: c.kind, At: at}}
			checkExport(t, c.o, 0, want)
		}
	}
}

func TestP15_1KindsThatThereAreNot(t *testing.T) {
	for _, kind := range []int{math.MinInt, math.MinInt + 1, math.MinInt32, -1 << 32, -256, -3, -2, -1, 3, 4, 5, 15, 64, 255, 256, 257, 258, 65536, 1 << 31, 1 << 32, 1<<32 + 1, 1<<32 + 2, math.MaxInt - 1, math.MaxInt} {
		for number := range sample().Exports {
			o := sample()
			o.Exports[number].Kind = kind
			for n, want := range samplePlaces() {
				if n == number {
					checkNone(t, o, n)
				} else {
					checkExport(t, o, n, want)
				}
			}
		}
		for _, at := range []int{0, 1, -1, math.MinInt, math.MaxInt} {
			checkNone(t, api.Object{Exports: []api.Export{{Kind: kind, At: at}}}, 0)
		}
	}
}

// Exports of one Kind, next to each other and apart: an export's number isn't its place.
func TestP15_1KindsNextToEachOtherAndApart(t *testing.T) {
	o := sized(4, 2, 3, 4) // types from 16, the text from 48, code from 52
	o.Exports = []api.Export{
		{Kind: api.Var, At: 3}, {Kind: api.Var, At: 2}, {Kind: api.Var, At: 2},
		{Kind: api.Proc, At: 3}, {Kind: api.Rec, At: 1}, {Kind: api.Proc, At: 0}, {Kind: api.Rec, At: 0}, {Kind: api.Rec, At: 1},
		{Kind: api.Var, At: 0}, {Kind: api.Proc, At: 1}, {Kind: api.Proc, At: 1}, {Kind: api.Var, At: 1}, {Kind: api.Proc, At: 2},
	}
	for n, want := range []int{12, 8, 8, 64, 32, 52, 16, 32, 0, 56, 56, 4, 60} {
		checkExport(t, o, n, want)
	}
	checkPlain(t, o)
}

// An export is where it is told to be, whatever the other ones are.
func TestP15_1OtherExportsTurnNothing(t *testing.T) {
	for n, want := range samplePlaces() {
		for _, with := range []api.Export{{}, {Kind: 1, At: 2}, {Kind: 2, At: 1}, {Kind: -1, At: 5}, {Kind: 3, At: math.MaxInt}} {
			o := sample()
			for other := range o.Exports {
				if other != n {
					o.Exports[other] = with
				}
			}
			checkExport(t, o, n, want)
		}
	}
}

// No such export, and no such kind, are all that there is false of: beyond its part, or below 0, an export is so far on, or back.
func TestP15_1ExportsBeyondTheirParts(t *testing.T) {
	for _, c := range []struct{ kind, at, want int }{
		{api.Var, 5, 20}, {api.Var, 100, 400}, {api.Var, -1, -4}, {api.Var, 1 << 40, 1 << 42},
		{api.Rec, 3, 68}, {api.Rec, 10, 180}, {api.Rec, -1, 4}, {api.Rec, -2, -12}, {api.Rec, 1 << 40, 1<<44 + 20},
		{api.Proc, 6, 100}, {api.Proc, 100, 476}, {api.Proc, -1, 72}, {api.Proc, -20, -4}, {api.Proc, 1 << 40, 1<<42 + 76},
	} {
		o := sample()
		o.Exports[3] = api.Export{Kind: c.kind, At: c.at}
		checkExport(t, o, 3, c.want)
	}
	// Nothing is there at all.
	for _, kind := range []int{api.Proc, api.Var, api.Rec} {
		checkExport(t, api.Object{Exports: []api.Export{{Kind: kind}}}, 0, 0)
	}
}
