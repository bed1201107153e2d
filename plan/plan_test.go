package plan

import (
	"dowel/api"
	"math"
	"strings"
	"testing"
)

// The chapter's example.
func TestP15_1Example(t *testing.T) {
	o := api.Object{Data: 1, Types: []api.Type{{Size: 4, Base: -1}}, Text: "hello"}
	checkPlan(t, o, Plan{Types: 4, Text: 20, Code: 28, Size: 28})
	o.Code = []uint32{0}
	checkPlan(t, o, Plan{Types: 4, Text: 20, Code: 28, Size: 32})
	o.Code = make([]uint32, 256)
	checkPlan(t, o, Plan{Types: 4, Text: 20, Code: 28, Size: 1052})
}

func TestP15_1NothingHasNoBytes(t *testing.T) {
	checkPlan(t, api.Object{}, Plan{})
	checkPlan(t, sized(0, 0, 0, 0), Plan{})
	checkPlain(t, api.Object{})
}

func TestP15_1PlansByHand(t *testing.T) {
	for _, c := range []struct {
		data, types, text, code int
		want                    Plan
	}{
		{1, 0, 0, 0, Plan{4, 4, 4, 4}},
		{0, 1, 0, 0, Plan{0, 16, 16, 16}},
		{0, 0, 1, 0, Plan{0, 0, 4, 4}},
		{0, 0, 0, 1, Plan{0, 0, 0, 4}},
		{1, 1, 1, 1, Plan{4, 20, 24, 28}},
		{3, 2, 5, 4, Plan{12, 44, 52, 68}},
		{5, 3, 7, 6, Plan{20, 68, 76, 100}},
		{5, 3, 8, 6, Plan{20, 68, 76, 100}},
		{5, 3, 9, 6, Plan{20, 68, 80, 104}},
		{7, 0, 3, 2, Plan{28, 28, 32, 40}},
		{0, 8, 59, 1, Plan{0, 128, 188, 192}},
		{64, 8, 60, 256, Plan{256, 384, 444, 1468}},
		{63, 7, 57, 255, Plan{252, 364, 424, 1444}},
		{-1, 8, 60, 256, Plan{0, 128, 188, 1212}},
		{math.MinInt, 1, 1, 1, Plan{0, 16, 20, 24}},
		// More than a module may have.
		{65, 9, 61, 257, Plan{260, 404, 468, 1496}},
		{1000, 100, 1001, 10000, Plan{4000, 5600, 6604, 46604}},
		{1 << 40, 1, 2, 3, Plan{1 << 42, 1<<42 + 16, 1<<42 + 20, 1<<42 + 32}},
	} {
		checkPlan(t, sized(c.data, c.types, c.text, c.code), c.want)
	}
	checkPlan(t, sample(), Plan{20, 68, 76, 100})
}

func TestP15_1DataAlone(t *testing.T) {
	for _, data := range []int{math.MinInt, math.MinInt + 1, math.MinInt / 4, math.MinInt32, -1 << 32, -65, -64, -4, -3, -2, -1, 0} {
		checkPlan(t, sized(data, 0, 0, 0), Plan{})
		checkPlan(t, sized(data, 2, 6, 3), Plan{0, 32, 40, 52})
	}
	for data := range 300 {
		checkPlan(t, sized(data, 0, 0, 0), Plan{4 * data, 4 * data, 4 * data, 4 * data})
	}
	for _, data := range []int{1 << 31, 1<<32 - 1, 1 << 32, 1<<32 + 1, 1 << 60, 1<<61 - 1} {
		checkPlan(t, sized(data, 0, 0, 0), Plan{4 * data, 4 * data, 4 * data, 4 * data})
	}
}

func TestP15_1TypesAlone(t *testing.T) {
	for types := range 100 {
		checkPlan(t, sized(0, types, 0, 0), Plan{0, 16 * types, 16 * types, 16 * types})
	}
}

func TestP15_1TextAlone(t *testing.T) {
	for length, want := range []int{0, 4, 4, 4, 4, 8, 8, 8, 8, 12} {
		checkPlan(t, sized(0, 0, length, 0), Plan{0, 0, want, want})
	}
	for length := range 300 {
		want := length
		for want%4 != 0 {
			want++
		}
		checkPlan(t, sized(0, 0, length, 0), Plan{0, 0, want, want})
	}
}

func TestP15_1CodeAlone(t *testing.T) {
	for code := range 600 {
		checkPlan(t, sized(0, 0, 0, code), Plan{0, 0, 0, 4 * code})
	}
}

func TestP15_1PartsTogether(t *testing.T) {
	for _, data := range []int{math.MinInt, -1, 0, 1, 2, 63, 64, 65} {
		for _, types := range []int{0, 1, 2, 7, 8, 9} {
			for _, text := range []int{0, 1, 2, 3, 4, 5, 6, 7, 8, 9, 56, 57, 58, 59, 60, 61} {
				for _, code := range []int{0, 1, 2, 255, 256, 257} {
					checkPlain(t, sized(data, types, text, code))
				}
			}
		}
	}
}

// A text's bytes are counted, whatever signs they are of, if of any.
func TestP15_1TextsOfOtherSigns(t *testing.T) {
	for _, c := range []struct {
		text string
		want int
	}{
		{"é", 4}, {"éé", 4}, {"ééé", 8}, {"aéé", 8}, {"€", 4}, {"€€", 8}, {"€a", 4}, {"😀", 4}, {"😀😀", 8}, {"😀é", 8}, {"日本語", 12}, {"日本語x", 12},
		{"\x00", 4}, {"\x00\x00\x00\x00\x00", 8}, {"\xff\xff\xff\xff", 4}, {"\xff\xff\xff\xff\xe2", 8}, {"e\u0301e\u0301", 8}, {strings.Repeat("é", 30), 60}, {strings.Repeat("€", 20), 60},
	} {
		o := api.Object{Data: 2, Types: make([]api.Type, 1), Text: c.text, Code: make([]uint32, 2)}
		checkPlan(t, o, Plan{8, 24, 24 + c.want, 32 + c.want})
		checkPlain(t, o)
	}
}

// One behind the other, so that each part has its room, and nothing else is between, but at most 3 zeros.
func TestP15_1PartsLieBehindEachOther(t *testing.T) {
	for _, data := range []int{-1, 0, 1, 17, 64, 1 << 33} {
		for types := range 10 {
			for text := range 62 {
				for _, code := range []int{0, 1, 256} {
					p := Of(sized(data, types, text, code))
					zeros := p.Code - p.Text - text
					if p.Types != 4*max(data, 0) || p.Text-p.Types != 16*types || zeros < 0 || zeros > 3 || p.Size-p.Code != 4*code || p.Code%4 != 0 {
						t.Fatalf("of %d, %d, %d, %d Of = %+v", data, types, text, code, p)
					}
				}
			}
		}
	}
}

// otherParts change what has no place in a block, and what parts have without getting longer.
func otherParts() map[string]func(o *api.Object) {
	return map[string]func(o *api.Object){
		"name":          func(o *api.Object) { o.Name = strings.Repeat("N", 99) },
		"no name":       func(o *api.Object) { o.Name = "" },
		"key":           func(o *api.Object) { o.Key = 1<<32 - 1 },
		"imports":       func(o *api.Object) { o.Imports = make([]api.Import, 9) },
		"no imports":    func(o *api.Object) { o.Imports = nil },
		"commands":      func(o *api.Object) { o.Cmds = make([]api.Entry, 9) },
		"no commands":   func(o *api.Object) { o.Cmds = nil },
		"a command":     func(o *api.Object) { o.Cmds[0].At = -7 },
		"Ptrs":          func(o *api.Object) { o.Ptrs = []int{0, 1, 2, 3, 99} },
		"no Ptrs":       func(o *api.Object) { o.Ptrs = nil },
		"Procs":         func(o *api.Object) { o.Procs = []int{0, 1, 2, 3, 99} },
		"no Procs":      func(o *api.Object) { o.Procs = nil },
		"calls":         func(o *api.Object) { o.Fix[0] = 6 },
		"addresses":     func(o *api.Object) { o.Fix[1] = -6 },
		"types' chain":  func(o *api.Object) { o.Fix[2] = 99 },
		"body":          func(o *api.Object) { o.Body = 99 },
		"no body":       func(o *api.Object) { o.Body = 0 },
		"a type's size": func(o *api.Object) { o.Types[0].Size = 256 },
		"a type's base": func(o *api.Object) { o.Types[1] = api.Type{Mod: 1, Base: 9} },
		"other text":    func(o *api.Object) { o.Text = "\x00\x00\x00\x00\x00\x00\x00" },
		"other code":    func(o *api.Object) { o.Code = make([]uint32, 6) },
	}
}

func TestP15_1NoOtherPartTurnsThePlan(t *testing.T) {
	for what, turn := range otherParts() {
		o := sample()
		turn(&o)
		if p := Of(o); p != (Plan{20, 68, 76, 100}) {
			t.Errorf("%s: Of = %+v", what, p)
		}
		for n, want := range samplePlaces() {
			if at, ok := Export(o, n); at != want || !ok {
				t.Errorf("%s: Export %d = %d, %v, want %d, true", what, n, at, ok, want)
			}
		}
	}
	for _, exports := range [][]api.Export{nil, {}, make([]api.Export, 65), {{Kind: 9, At: -9}}} {
		o := sample()
		o.Exports = exports
		checkPlan(t, o, Plan{20, 68, 76, 100})
	}
}

// Each part moves those behind it, and none ahead of it.
func TestP15_1EachPartMovesThoseBehind(t *testing.T) {
	for _, c := range []struct {
		grow func(o *api.Object)
		want Plan
	}{
		{func(o *api.Object) { o.Data++ }, Plan{24, 72, 80, 104}},
		{func(o *api.Object) { o.Types = append(o.Types, api.Type{}) }, Plan{20, 84, 92, 116}},
		{func(o *api.Object) { o.Text += "a" }, Plan{20, 68, 76, 100}},
		{func(o *api.Object) { o.Text += "ab" }, Plan{20, 68, 80, 104}},
		{func(o *api.Object) { o.Code = append(o.Code, 0) }, Plan{20, 68, 76, 104}},
	} {
		o := sample()
		c.grow(&o)
		checkPlan(t, o, c.want)
		checkPlain(t, o)
	}
}
