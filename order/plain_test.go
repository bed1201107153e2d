package order

import (
	"dowel/api"
	"reflect"
	"slices"
	"testing"
)

// keyOf is the key of a name's module, where a test doesn't give it another one.
func keyOf(name string) uint32 {
	key := uint32(2166136261)
	for _, b := range []byte(name) {
		key = (key ^ uint32(b)) * 16777619
	}
	return key
}

// ref is an import with the key that it is to have.
func ref(name string) api.Import { return api.Import{Name: name, Key: keyOf(name)} }

// refs are imports of these names; each list has room behind its end.
func refs(names ...string) []api.Import {
	l := make([]api.Import, 0, len(names)+3)
	for _, s := range names {
		l = append(l, ref(s))
	}
	return l
}

// roomy is a copy of a list with room behind its end.
func roomy[E any](l ...E) []E { return append(make([]E, 0, len(l)+3), l...) }

// module is one that may be, with something in each list, told apart from others by its name.
func module(name string, imports ...string) api.Object {
	n := len(name)
	return api.Object{
		Name:    name,
		Key:     keyOf(name),
		Imports: refs(imports...),
		Types:   roomy(api.Type{Size: 8, Base: -1}, api.Type{Size: 4 * n, Base: 0}),
		Data:    20 + n,
		Text:    "I am " + name,
		Code:    roomy(uint32(api.Call)<<26|15<<22, uint32(api.Go)<<26|15<<22, keyOf(name)),
		Cmds:    roomy(api.Entry{Name: name, At: 1}, api.Entry{Name: "Z", At: 2}),
		Exports: roomy(api.Export{Kind: api.Proc, At: 1}, api.Export{Kind: api.Var, At: n}, api.Export{Kind: api.Rec, At: 1}),
		Ptrs:    roomy(0, n),
		Procs:   roomy(n+1, n+2),
		Fix:     [3]int{1, 0, 0},
		Body:    2,
	}
}

// bare is one that may be, with no list but its code, and its imports.
func bare(name string, imports ...string) api.Object {
	return api.Object{Name: name, Key: keyOf(name), Imports: refs(imports...), Code: []uint32{0}}
}

// world is what get and has tell.
type world struct {
	files  map[string]api.Object // by the names for which they are told; all others can't be had
	fails  map[string]error      // those that can't be had, though there is a file
	wrong  map[string]int        // those that may not be modules, whatever else is so
	loaded map[string]uint32
	got    []string // for which names get was called
}

// having is a world with these modules, each a file of its own name.
func having(modules ...api.Object) *world {
	w := &world{files: map[string]api.Object{}, fails: map[string]error{}, wrong: map[string]int{}, loaded: map[string]uint32{}}
	for _, m := range modules {
		w.files[m.Name] = m
	}
	return w
}

// load has these names loaded, each with the key that it is to have.
func (w *world) load(names ...string) *world {
	for _, s := range names {
		w.loaded[s] = keyOf(s)
	}
	return w
}

// fail has a name's file be one that can't be had.
func (w *world) fail(name string, err error) *world {
	w.fails[name] = err
	return w
}

// spoil has a name's file be none that may be a module.
func (w *world) spoil(name string) *world {
	o := w.files[name]
	o.Code = nil
	w.files[name] = o
	w.wrong[name]++
	return w
}

// file is what can be had of a name. An object is told beside an error, too, which is to be of no matter.
func (w *world) file(name string) (api.Object, error) {
	if err := w.fails[name]; err != nil {
		return w.files[name], err
	}
	o, ok := w.files[name]
	if !ok {
		return module("Other", name), api.ErrNone
	}
	return o, nil
}

func (w *world) get(name string) (api.Object, error) {
	w.got = append(w.got, name)
	return w.file(name)
}

// has tells a key beside false, too, which is to be of no matter.
func (w *world) has(name string) (uint32, bool) {
	key, ok := w.loaded[name]
	if !ok {
		return keyOf(name) + 1, false
	}
	return key, true
}

// plain is the chapter's words: what was resolved so far, behind a name too, which names were got, and the first error.
type plain struct {
	order []string
	got   []string
	err   error
}

// keyIn is the key of a module that is loaded, or was resolved.
func (p plain) keyIn(w *world, name string) (uint32, bool) {
	if key, ok := w.loaded[name]; ok {
		return key, true
	}
	if slices.Contains(p.order, name) {
		return w.files[name].Key, true
	}
	return 0, false
}

// behind is p behind a name at a depth, with these under way.
func (p plain) behind(w *world, name string, depth int, way []string) plain {
	if _, ok := p.keyIn(w, name); ok {
		return p
	}
	for _, s := range way {
		if s == name {
			p.err = api.ErrCycle
			return p
		}
	}
	if depth >= 9 {
		p.err = api.ErrDepth
		return p
	}
	p.got = append(slices.Clone(p.got), name)
	o, err := w.file(name)
	if err != nil {
		p.err = err
		return p
	}
	if w.wrong[name] > 0 || o.Name != name {
		p.err = api.ErrForm
		return p
	}
	for _, i := range o.Imports {
		p = p.behind(w, i.Name, depth+1, append(slices.Clone(way), name))
		if p.err != nil {
			return p
		}
		if key, _ := p.keyIn(w, i.Name); key != i.Key {
			p.err = api.ErrKey
			return p
		}
	}
	p.order = append(slices.Clone(p.order), name)
	return p
}

// wide is a copy of an object, with all that its lists have room for.
func wide(o api.Object) api.Object {
	o.Imports, o.Types = all(o.Imports), all(o.Types)
	o.Code, o.Cmds = all(o.Code), all(o.Cmds)
	o.Exports, o.Ptrs, o.Procs = all(o.Exports), all(o.Ptrs), all(o.Procs)
	return o
}

func all[E any](l []E) []E { return slices.Clone(l[:cap(l)]) }

// wideFiles are all files with all that their lists have room for.
func (w *world) wideFiles() map[string]api.Object {
	files := map[string]api.Object{}
	for s, o := range w.files {
		files[s] = wide(o)
	}
	return files
}

// same tells whether two objects are; a list that is nil, and one that is empty, are.
func same(a, b api.Object) bool {
	return a.Name == b.Name && a.Key == b.Key && a.Data == b.Data && a.Text == b.Text && a.Fix == b.Fix && a.Body == b.Body &&
		slices.Equal(a.Imports, b.Imports) && slices.Equal(a.Types, b.Types) && slices.Equal(a.Code, b.Code) && slices.Equal(a.Cmds, b.Cmds) &&
		slices.Equal(a.Exports, b.Exports) && slices.Equal(a.Ptrs, b.Ptrs) && slices.Equal(a.Procs, b.Procs)
}

func namesOf(list []api.Object) []string {
	names := []string{}
	for _, o := range list {
		names = append(names, o.Name)
	}
	return names
}

// checkFollows asks for P19.3, and that all that is told is as the files have it.
func checkFollows(t *testing.T, w *world, s string, list []api.Object) {
	t.Helper()
	keys := map[string]uint32{}
	for name, key := range w.loaded {
		keys[name] = key
	}
	for _, o := range list {
		if _, there := keys[o.Name]; there {
			t.Fatalf("%q stands twice, or is loaded, in %q", o.Name, namesOf(list))
		}
		if !same(o, w.files[o.Name]) {
			t.Fatalf("%q is told as %+v, not as %+v", o.Name, o, w.files[o.Name])
		}
		for _, i := range o.Imports {
			if key, there := keys[i.Name]; !there || key != i.Key {
				t.Fatalf("%q's import %v is not ahead of it, or has key %d, in %q", o.Name, i, key, namesOf(list))
			}
		}
		keys[o.Name] = o.Key
	}
	if _, loaded := w.loaded[s]; !loaded && (len(list) == 0 || list[len(list)-1].Name != s) {
		t.Fatalf("the last one is not %q in %q", s, namesOf(list))
	}
}

// checkResolve holds a call against the plain words, and what was told by get against what it was. It tells the names in order, and the error.
func checkResolve(t *testing.T, w *world, s string) ([]string, error) {
	t.Helper()
	want := plain{}.behind(w, s, 0, nil)
	before := w.wideFiles()
	w.got = nil
	list, err := Resolve(s, w.get, w.has)
	if (err == nil) != (want.err == nil) || err != nil && err != want.err {
		t.Fatalf("Resolve(%q) came to the error %v, want %v", s, err, want.err)
	}
	if !slices.Equal(w.got, want.got) {
		t.Fatalf("Resolve(%q) got %q, want %q", s, w.got, want.got)
	}
	if after := w.wideFiles(); !reflect.DeepEqual(before, after) {
		t.Fatalf("Resolve(%q) changed what get told: %v, want %v", s, after, before)
	}
	if err != nil {
		if len(list) != 0 {
			t.Fatalf("Resolve(%q) told %q beside %v", s, namesOf(list), err)
		}
		return nil, err
	}
	if !slices.Equal(namesOf(list), want.order) {
		t.Fatalf("Resolve(%q) told %q, want %q", s, namesOf(list), want.order)
	}
	checkFollows(t, w, s, list)
	return namesOf(list), nil
}

// checkOrder asks for these names in this order.
func checkOrder(t *testing.T, w *world, s string, want ...string) {
	t.Helper()
	if names, err := checkResolve(t, w, s); err != nil || !slices.Equal(names, want) {
		t.Fatalf("Resolve(%q) = %q, %v, want %q", s, names, err, want)
	}
}

// checkError asks for that error itself, and for gets of these names.
func checkError(t *testing.T, w *world, s string, want error, got ...string) {
	t.Helper()
	if _, err := checkResolve(t, w, s); err == nil || err != want {
		t.Fatalf("Resolve(%q) came to the error %v, want %v", s, err, want)
	}
	if !slices.Equal(w.got, got) {
		t.Fatalf("Resolve(%q) got %q, want %q", s, w.got, got)
	}
}

// line are so many names, from Aa on.
func line(count int) []string {
	names := []string{}
	for i := range count {
		names = append(names, "A"+string(rune('a'+i)))
	}
	return names
}

// lined are the modules of a line: each imports the next one, and the last one these.
func lined(names []string, last ...string) []api.Object {
	var list []api.Object
	for i, s := range names {
		if i+1 < len(names) {
			list = append(list, module(s, names[i+1]))
		} else {
			list = append(list, module(s, last...))
		}
	}
	return list
}

func reversed(names []string) []string {
	l := slices.Clone(names)
	slices.Reverse(l)
	return l
}
