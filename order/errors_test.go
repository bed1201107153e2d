package order

import (
	"dowel/api"
	"errors"
	"math"
	"slices"
	"strings"
	"testing"
)

// wrongs turn a module into what may not be one, each for another reason; its imports' names stay as they are.
var wrongs = map[string]func(o *api.Object){
	"no code":       func(o *api.Object) { o.Code = nil },
	"too much code": func(o *api.Object) { o.Code = make([]uint32, 257) },
	"data below 0":  func(o *api.Object) { o.Data = -1 },
	"too much data": func(o *api.Object) { o.Data = 65 },
	"a long text":   func(o *api.Object) { o.Text = strings.Repeat("t", 61) },
	"two imports of a name": func(o *api.Object) {
		o.Imports = append(refs("B"), o.Imports...)
		o.Imports = append(o.Imports, ref("B"))
	},
	"too many imports":       func(o *api.Object) { o.Imports = append(o.Imports, refs(line(9)...)...) },
	"an import without name": func(o *api.Object) { o.Imports = append(o.Imports, api.Import{}) },
	"a type of 3 bytes":      func(o *api.Object) { o.Types = []api.Type{{Size: 3, Base: -1}} },
	"a type of no import":    func(o *api.Object) { o.Types = append(o.Types, api.Type{Size: 4, Mod: 9, Base: 0}) },
	"a type that is itself":  func(o *api.Object) { o.Types = []api.Type{{Size: 4, Base: 0}} },
	"commands of one name":   func(o *api.Object) { o.Cmds = []api.Entry{{Name: "C", At: 0}, {Name: "C", At: 1}} },
	"a command elsewhere":    func(o *api.Object) { o.Cmds = []api.Entry{{Name: "C", At: len(o.Code)}} },
	"an export of no kind":   func(o *api.Object) { o.Exports = append(o.Exports, api.Export{Kind: 3}) },
	"an export elsewhere":    func(o *api.Object) { o.Exports = append(o.Exports, api.Export{Kind: api.Var, At: o.Data}) },
	"too many exports":       func(o *api.Object) { o.Exports = make([]api.Export, 65) },
	"a cell elsewhere":       func(o *api.Object) { o.Ptrs = []int{o.Data} },
	"cells that fall":        func(o *api.Object) { o.Procs = []int{2, 1} },
	"a cell of two kinds":    func(o *api.Object) { o.Ptrs, o.Procs = []int{2}, []int{2} },
	"a body elsewhere":       func(o *api.Object) { o.Body = len(o.Code) + 1 },
	"a chain elsewhere":      func(o *api.Object) { o.Fix[1] = len(o.Code) + 1 },
	"a chain of no set":      func(o *api.Object) { o.Fix[2] = 2 },
	"a place in two chains":  func(o *api.Object) { o.Code = []uint32{1 << 26}; o.Fix = [3]int{0, 1, 1} },
	"a call of a variable":   func(o *api.Object) { o.Exports = []api.Export{{Kind: api.Var}} },
	"a name with a mark":     func(o *api.Object) { o.Cmds = []api.Entry{{Name: "C-1"}} },
	"far numbers":            func(o *api.Object) { o.Body, o.Data, o.Fix[0] = math.MinInt, math.MaxInt, math.MinInt },
}

func TestP19_1OnesThatMayNotBe(t *testing.T) {
	for why, turn := range wrongs {
		for depth := range 9 {
			names := line(depth + 1)
			w := having(append(lined(names), module("B"))...)
			last := names[depth]
			for _, imports := range [][]string{nil, {"B"}, {"None"}, {names[0]}} {
				if depth == 0 && slices.Contains(imports, names[0]) {
					continue
				}
				o := module(last, imports...)
				turn(&o)
				w.files[last] = o
				w.wrong[last] = 1
				if _, err := checkResolve(t, w, names[0]); err != error(api.ErrForm) || !slices.Equal(w.got, names) {
					t.Fatalf("%s at depth %d: %v, %q were got", why, depth, err, w.got)
				}
			}
		}
	}
}

// A key may be any, but it is to be the import's.
func TestP19_1Keys(t *testing.T) {
	keys := []uint32{0, 1, 2, 255, 256, 65536, 1<<31 - 1, 1 << 31, 1<<32 - 2, 1<<32 - 1}
	for _, asked := range keys {
		for _, is := range keys {
			a, b := module("A"), module("B")
			a.Imports = []api.Import{{Name: "B", Key: asked}}
			b.Key = is
			w := having(a, b)
			checkKeys(t, w, asked == is, []string{"B", "A"}, []string{"A", "B"})
			// Of what is loaded the key is has's, not that of a file.
			w.loaded["B"] = is
			w.files["B"] = module("B")
			checkKeys(t, w, asked == is, []string{"A"}, []string{"A"})
			delete(w.files, "B")
			checkKeys(t, w, asked == is, []string{"A"}, []string{"A"})
		}
	}
}

// checkKeys resolves A: that comes to ErrKey, if keys aren't alike.
func checkKeys(t *testing.T, w *world, alike bool, order, got []string) {
	t.Helper()
	if alike {
		checkOrder(t, w, "A", order...)
	} else {
		checkError(t, w, "A", api.ErrKey, got...)
	}
}

// other is an import with another key than the module's.
func other(name string) api.Import { return api.Import{Name: name, Key: keyOf(name) + 1} }

// importing is a module with these imports.
func importing(name string, imports ...api.Import) api.Object {
	o := module(name)
	o.Imports = imports
	return o
}

func TestP19_1OtherKeys(t *testing.T) {
	// Of one that was resolved for another import, by another module, and by the same one further down.
	w := having(importing("A", ref("B"), ref("C")), importing("B", ref("D")), importing("C", other("D")), module("D"))
	checkError(t, w, "A", api.ErrKey, "A", "B", "D", "C")
	checkOrder(t, w, "B", "D", "B")
	checkError(t, w, "C", api.ErrKey, "C", "D")
	w = having(importing("A", ref("B"), other("D")), importing("B", ref("D")), module("D"))
	checkError(t, w, "A", api.ErrKey, "A", "B", "D")
	// Of one that is resolved for this import: behind all that it imports.
	w = having(importing("A", other("B")), importing("B", ref("C")), importing("C", ref("D")), module("D"))
	checkError(t, w, "A", api.ErrKey, "A", "B", "C", "D")
	// Of one that is loaded.
	checkError(t, w.load("B"), "A", api.ErrKey, "A")
	// The module's own name may be told with any key.
	w.loaded["A"] = 0
	checkOrder(t, w, "A")
}

// broke is an error of another type than api's.
type broke struct{ why string }

func (b *broke) Error() string { return b.why }

// empty is an error of no bytes.
type empty struct{}

func (empty) Error() string { return "" }

func TestP19_1ErrorsOfGet(t *testing.T) {
	told := []error{errors.New("gone"), &broke{"broken"}, (*broke)(nil), empty{}, wrapped{api.ErrForm}, errors.Join(api.ErrForm, api.ErrKey)}
	for code := api.Code(-1); code <= api.ErrLarge+1; code++ {
		told = append(told, code)
	}
	for _, err := range told {
		for depth := range 9 {
			names := line(depth + 1)
			w := having(lined(names)...).fail(names[depth], err)
			checkError(t, w, names[0], err, names...)
			w.spoil(names[depth])
			checkError(t, w, names[0], err, names...)
			delete(w.files, names[depth])
			checkError(t, w, names[0], err, names...)
			checkOrder(t, w.load(names[depth]), names[0], reversed(names[:depth])...)
		}
	}
}

// wrapped has an error of api's within it.
type wrapped struct{ error }

func (w wrapped) Unwrap() error { return w.error }

// Two things are wrong: the one that is met first is told.
func TestP19_1TheFirstError(t *testing.T) {
	deep, deeper := line(9), line(10)
	failing := errors.New("can't be had")
	cases := map[string]struct {
		w    *world
		s    string
		want error
		got  []string
	}{
		"under way, and too deep":               {having(lined(deep, deep[0])...), deep[0], api.ErrCycle, deep},
		"under way in the midst, and too deep":  {having(lined(deep, deep[5])...), deep[0], api.ErrCycle, deep},
		"under way just above, and too deep":    {having(lined(deep, deep[7])...), deep[0], api.ErrCycle, deep},
		"under way, and another key":            {having(importing("A", ref("B")), importing("B", other("A"))), "A", api.ErrCycle, []string{"A", "B"}},
		"under way, then none":                  {having(module("A", "B"), module("B", "A", "C")), "A", api.ErrCycle, []string{"A", "B"}},
		"none, then under way":                  {having(module("A", "B"), module("B", "C", "A")), "A", api.ErrNone, []string{"A", "B", "C"}},
		"too deep, and can't be had":            {having(lined(deeper)...).fail(deeper[9], failing), deep[0], api.ErrDepth, deep},
		"too deep, and no file":                 {having(lined(deep, "None")...), deep[0], api.ErrDepth, deep},
		"too deep, and may not be":              {having(lined(deeper)...).spoil(deeper[9]), deep[0], api.ErrDepth, deep},
		"too deep, and an import in a cycle":    {having(lined(deeper, deep[0])...), deep[0], api.ErrDepth, deep},
		"can't be had, and another key":         {having(importing("A", other("B")), module("B")).fail("B", failing), "A", failing, []string{"A", "B"}},
		"may not be, and another key":           {having(importing("A", other("B")), module("B")).spoil("B"), "A", api.ErrForm, []string{"A", "B"}},
		"no file, and another key":              {having(importing("A", other("B"))), "A", api.ErrNone, []string{"A", "B"}},
		"an import's import, and another key":   {having(importing("A", other("B")), module("B", "C")), "A", api.ErrNone, []string{"A", "B", "C"}},
		"another key, then none":                {having(importing("A", other("B"), ref("C")), module("B")), "A", api.ErrKey, []string{"A", "B"}},
		"another key of a loaded, then none":    {having(importing("A", other("B"), ref("C"))).load("B"), "A", api.ErrKey, []string{"A"}},
		"none, then another key":                {having(importing("A", ref("C"), other("B")), module("B")), "A", api.ErrNone, []string{"A", "C"}},
		"another key, then may not be":          {having(importing("A", other("B"), ref("C")), module("B"), module("C")).spoil("C"), "A", api.ErrKey, []string{"A", "B"}},
		"may not be, then another key":          {having(importing("A", ref("C"), other("B")), module("B"), module("C")).spoil("C"), "A", api.ErrForm, []string{"A", "C"}},
		"two that can't be had":                 {having(module("A", "B", "C")).fail("B", failing).fail("C", api.ErrForm), "A", failing, []string{"A", "B"}},
		"two that can't be had, the other way":  {having(module("A", "C", "B")).fail("B", failing).fail("C", api.ErrForm), "A", api.ErrForm, []string{"A", "C"}},
		"another key further down":              {having(importing("A", other("B")), importing("B", other("C")), importing("C", ref("B"))), "A", api.ErrCycle, []string{"A", "B", "C"}},
		"may not be, and has wrong imports":     {having(importing("A", other("B"), ref("A"), ref("None")), module("B")).spoil("A"), "A", api.ErrForm, []string{"A"}},
		"a cycle, then what may not be":         {having(module("A", "B", "C"), module("B", "A"), module("C")).spoil("C"), "A", api.ErrCycle, []string{"A", "B"}},
		"what may not be, then a cycle":         {having(module("A", "C", "B"), module("B", "A"), module("C")).spoil("C"), "A", api.ErrForm, []string{"A", "C"}},
		"a right one, then another key":         {having(importing("A", ref("B"), other("C")), module("B"), module("C")), "A", api.ErrKey, []string{"A", "B", "C"}},
		"can't be had, though it may not be":    {having(module("A")).spoil("A").fail("A", failing), "A", failing, []string{"A"}},
		"another key, at the greatest depth":    {having(append(lined(deep[:8]), importing(deep[7], other(deep[8])), module(deep[8]))...), deep[0], api.ErrKey, deep},
		"another key of loaded, at depth 9":     {having(append(lined(deep[:8], deep[8]), importing(deep[8], other("L")))...).load("L"), deep[0], api.ErrKey, deep},
		"another key of one under way, at 9":    {having(append(lined(deep[:8], deep[8]), importing(deep[8], other(deep[2])))...), deep[0], api.ErrCycle, deep},
		"right key of loaded at 9, then a deep": {having(append(lined(deep[:8], deep[8]), importing(deep[8], ref("L"), ref("M")), module("M"))...).load("L"), deep[0], api.ErrDepth, deep},
	}
	for what, c := range cases {
		if _, err := checkResolve(t, c.w, c.s); err == nil || err != c.want || !slices.Equal(c.w.got, c.got) {
			t.Errorf("%s: %v, %q were got", what, err, c.w.got)
		}
	}
}

// What may not be a module, and has another name, is ErrForm: both ask for that.
func TestP19_1MayNotBeAndHasAnotherName(t *testing.T) {
	for why, turn := range wrongs {
		o := module("C", "A")
		turn(&o)
		w := having()
		w.files["A"] = o
		w.wrong["A"] = 1
		if _, err := checkResolve(t, w, "A"); err != error(api.ErrForm) || !slices.Equal(w.got, []string{"A"}) {
			t.Errorf("%s: %v, %q were got", why, err, w.got)
		}
	}
}
