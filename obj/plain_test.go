package obj

import (
	"dowel/api"
	"slices"
	"strings"
	"testing"
)

// full has some of each part, and no two numbers of it are the same where they could be taken for each other.
func full() api.Object {
	return api.Object{
		Name:    "List",
		Key:     0x04030201,
		Imports: []api.Import{{Name: "A", Key: 5}, {Name: "Bb", Key: 0xFFFEFDFC}},
		Types:   []api.Type{{Size: 12, Mod: 6, Base: -1}, {Size: 300, Mod: 2, Base: 254}, {Size: 7, Mod: 255, Base: 0}},
		Data:    8,
		Text:    "hi\x00",
		Code:    []uint32{9, 0x80000A0B},
		Cmds:    []api.Entry{{Name: "Do", At: 258}, {Name: "", At: 10}},
		Exports: []api.Export{{Kind: 0, At: 11}, {Kind: 1, At: 515}, {Kind: 2, At: 65535}},
		Ptrs:    []int{13, 14, 255},
		Procs:   []int{16, 17},
		Fix:     [3]int{18, 4883, 65535},
		Body:    5397,
	}
}

// fullBytes are full's bytes, written out by hand.
func fullBytes() []byte {
	return []byte{
		68, 87,
		4, 'L', 'i', 's', 't',
		1, 2, 3, 4,
		2, 1, 'A', 5, 0, 0, 0, 2, 'B', 'b', 252, 253, 254, 255,
		3, 12, 0, 6, 255, 44, 1, 2, 254, 7, 0, 255, 0,
		8,
		3, 'h', 'i', 0,
		2, 0, 9, 0, 0, 0, 11, 10, 0, 128,
		2, 2, 'D', 'o', 2, 1, 0, 10, 0,
		3, 0, 11, 0, 1, 3, 2, 2, 255, 255,
		3, 13, 14, 255,
		2, 16, 17,
		18, 0, 19, 19, 255, 255,
		21, 21,
	}
}

// bareBytes are the bytes of the object that has nothing in it, written out by hand.
func bareBytes() []byte {
	return []byte{
		68, 87,
		0,
		0, 0, 0, 0,
		0,
		0,
		0,
		0,
		0, 0,
		0,
		0,
		0,
		0,
		0, 0, 0, 0, 0, 0,
		0, 0,
	}
}

// copyOf is the same object with lists of its own.
func copyOf(o api.Object) api.Object {
	o.Imports = slices.Clone(o.Imports)
	o.Types = slices.Clone(o.Types)
	o.Code = slices.Clone(o.Code)
	o.Cmds = slices.Clone(o.Cmds)
	o.Exports = slices.Clone(o.Exports)
	o.Ptrs = slices.Clone(o.Ptrs)
	o.Procs = slices.Clone(o.Procs)
	return o
}

// isFull tells whether o is full: written out part by part, so that Same isn't asked about itself.
func isFull(o api.Object) bool { return plainSame(o, full()) }

// plainWriter is the chapter's words by division. It asks of each number whether it goes into its bytes.
type plainWriter struct {
	b   []byte
	bad bool
}

func (w *plainWriter) number(n, width int) {
	for range width {
		w.b = append(w.b, byte((n%256+256)%256))
		n /= 256
	}
	if n != 0 {
		w.bad = true
	}
}

// within writes a number from 0 to what so many bytes hold.
func (w *plainWriter) within(n, width int) {
	if n < 0 {
		w.bad = true
		n = 0
	}
	w.number(n, width)
}

func (w *plainWriter) text(s string) {
	w.within(len(s), 1)
	w.b = append(w.b, s...)
}

func (w *plainWriter) lists(o api.Object) {
	w.within(len(o.Imports), 1)
	for _, i := range o.Imports {
		w.text(i.Name)
		w.within(int(i.Key), 4)
	}
	w.within(len(o.Types), 1)
	for _, t := range o.Types {
		w.within(t.Size, 2)
		w.within(t.Mod, 1)
		w.base(t.Base)
	}
	w.within(o.Data, 1)
	w.text(o.Text)
	w.within(len(o.Code), 2)
	for _, c := range o.Code {
		w.within(int(c), 4)
	}
	w.within(len(o.Cmds), 1)
	for _, c := range o.Cmds {
		w.text(c.Name)
		w.within(c.At, 2)
	}
	w.within(len(o.Exports), 1)
	for _, e := range o.Exports {
		w.within(e.Kind, 1)
		w.within(e.At, 2)
	}
}

// base writes -1 as 255: so 255 itself can't be written.
func (w *plainWriter) base(base int) {
	switch {
	case base == -1:
		w.number(255, 1)
	case base == 255:
		w.bad = true
	default:
		w.within(base, 1)
	}
}

func (w *plainWriter) cells(list []int) {
	w.within(len(list), 1)
	for _, n := range list {
		w.within(n, 1)
	}
}

// plainPut is Put by the chapter's words.
func plainPut(o api.Object) ([]byte, bool) {
	w := &plainWriter{b: []byte("DW")}
	w.text(o.Name)
	w.within(int(o.Key), 4)
	w.lists(o)
	w.cells(o.Ptrs)
	w.cells(o.Procs)
	for _, n := range o.Fix {
		w.within(n, 2)
	}
	w.within(o.Body, 2)
	if w.bad || len(w.b) > 4000 {
		return nil, false
	}
	return w.b, true
}

// plainReader reads by places out of a text, and leaves by a panic where that ends.
type plainReader struct {
	all string
	at  int
}

func (r *plainReader) number(width int) int {
	piece := r.all[r.at : r.at+width]
	r.at += width
	n := 0
	for i := width - 1; i >= 0; i-- {
		n = n*256 + int(piece[i])
	}
	return n
}

func (r *plainReader) text() string {
	count := r.number(1)
	s := r.all[r.at : r.at+count]
	r.at += count
	return s
}

func (r *plainReader) object() (o api.Object) {
	o.Name = r.text()
	o.Key = uint32(r.number(4))
	for i := r.number(1); i > 0; i-- {
		s := r.text()
		o.Imports = append(o.Imports, api.Import{Name: s, Key: uint32(r.number(4))})
	}
	for i := r.number(1); i > 0; i-- {
		size := r.number(2)
		mod := r.number(1)
		base := r.number(1)
		if base == 255 {
			base = -1
		}
		o.Types = append(o.Types, api.Type{Size: size, Mod: mod, Base: base})
	}
	o.Data = r.number(1)
	o.Text = r.text()
	for i := r.number(2); i > 0; i-- {
		o.Code = append(o.Code, uint32(r.number(4)))
	}
	for i := r.number(1); i > 0; i-- {
		s := r.text()
		o.Cmds = append(o.Cmds, api.Entry{Name: s, At: r.number(2)})
	}
	for i := r.number(1); i > 0; i-- {
		kind := r.number(1)
		o.Exports = append(o.Exports, api.Export{Kind: kind, At: r.number(2)})
	}
	for i := r.number(1); i > 0; i-- {
		o.Ptrs = append(o.Ptrs, r.number(1))
	}
	for i := r.number(1); i > 0; i-- {
		o.Procs = append(o.Procs, r.number(1))
	}
	for i := range 3 {
		o.Fix[i] = r.number(2)
	}
	o.Body = r.number(2)
	return o
}

// plainGet is Get by the chapter's words.
func plainGet(b []byte) (o api.Object, ok bool) {
	defer func() {
		if recover() != nil {
			o, ok = api.Object{}, false
		}
	}()
	r := &plainReader{all: string(b)}
	if r.number(1) != 68 || r.number(1) != 87 {
		return api.Object{}, false
	}
	o = r.object()
	if r.at != len(b) {
		return api.Object{}, false
	}
	return o, true
}

// plainSame is Same by one line for each part, each list by its places.
func plainSame(a, b api.Object) bool {
	ok := true
	must := func(is bool) { ok = ok && is }
	must(a.Name == b.Name)
	must(a.Key == b.Key)
	must(a.Data == b.Data)
	must(a.Text == b.Text)
	must(a.Body == b.Body)
	for i := range 3 {
		must(a.Fix[i] == b.Fix[i])
	}
	if len(a.Imports) != len(b.Imports) || len(a.Types) != len(b.Types) || len(a.Code) != len(b.Code) || len(a.Cmds) != len(b.Cmds) ||
		len(a.Exports) != len(b.Exports) || len(a.Ptrs) != len(b.Ptrs) || len(a.Procs) != len(b.Procs) {
		return false
	}
	for i := range a.Imports {
		must(a.Imports[i].Name == b.Imports[i].Name)
		must(a.Imports[i].Key == b.Imports[i].Key)
	}
	for i := range a.Types {
		must(a.Types[i].Size == b.Types[i].Size)
		must(a.Types[i].Mod == b.Types[i].Mod)
		must(a.Types[i].Base == b.Types[i].Base)
	}
	for i := range a.Code {
		must(a.Code[i] == b.Code[i])
	}
	for i := range a.Cmds {
		must(a.Cmds[i].Name == b.Cmds[i].Name)
		must(a.Cmds[i].At == b.Cmds[i].At)
	}
	for i := range a.Exports {
		must(a.Exports[i].Kind == b.Exports[i].Kind)
		must(a.Exports[i].At == b.Exports[i].At)
	}
	for i := range a.Ptrs {
		must(a.Ptrs[i] == b.Ptrs[i])
	}
	for i := range a.Procs {
		must(a.Procs[i] == b.Procs[i])
	}
	return ok
}

// isNothing tells whether o is the zero value, or has lists of no elements where that has none.
func isNothing(o api.Object) bool { return plainSame(o, api.Object{}) }

// checkCode asks for the Code itself.
func checkCode(t *testing.T, err error, want api.Code) {
	t.Helper()
	if code, is := err.(api.Code); !is || code != want {
		t.Fatalf("the error is %v, want %v itself", err, want)
	}
}

// checkPut holds Put against plain words: its bytes, or ErrArg with none; and o as it was.
func checkPut(t *testing.T, o api.Object) {
	t.Helper()
	want, may := plainPut(o)
	before := copyOf(o)
	got, err := Put(o)
	if !plainSame(o, before) {
		t.Fatal("what was handed in is changed")
	}
	if !may {
		checkCode(t, err, api.ErrArg)
		if len(got) != 0 {
			t.Fatalf("with ErrArg %d bytes are told", len(got))
		}
		return
	}
	if err != nil {
		t.Fatalf("Put = %v, want %d bytes", err, len(want))
	}
	checkBytes(t, got, want)
	back, err := Get(got)
	if err != nil || !plainSame(back, o) || !Same(back, o) {
		t.Fatalf("what was put is got as %.200v, %v", back, err)
	}
}

// checkGet holds Get against plain words, and puts what is got.
func checkGet(t *testing.T, b []byte) {
	t.Helper()
	want, is := plainGet(b)
	before := string(b)
	got, err := Get(b)
	if string(b) != before {
		t.Fatal("what was handed in is changed")
	}
	if !is {
		checkNone(t, got, err)
		return
	}
	if err != nil || !plainSame(got, want) || !Same(got, want) {
		t.Fatalf("Get = %.200v, %v, want %.200v", got, err, want)
	}
	again, err := Put(got)
	if len(b) > 4000 {
		checkCode(t, err, api.ErrArg)
		checkBytes(t, again, nil)
		return
	}
	if err != nil {
		t.Fatalf("what was got is put as %v", err)
	}
	checkBytes(t, again, b)
}

// checkNone asks for ErrForm, and the object that has nothing in it.
func checkNone(t *testing.T, o api.Object, err error) {
	t.Helper()
	checkCode(t, err, api.ErrForm)
	if !isNothing(o) {
		t.Fatalf("with ErrForm %.200v is told", o)
	}
}

func checkBytes(t *testing.T, got, want []byte) {
	t.Helper()
	if string(got) != string(want) {
		t.Fatalf("%d bytes, % x, want %d, % x", len(got), got[:min(len(got), 60)], len(want), want[:min(len(want), 60)])
	}
}

// checkSame asks both ways.
func checkSame(t *testing.T, a, b api.Object, want bool) {
	t.Helper()
	if Same(a, b) != want || Same(b, a) != want {
		t.Fatalf("Same of %.200v and %.200v = %v, %v, want %v", a, b, Same(a, b), Same(b, a), want)
	}
	if plainSame(a, b) != want {
		t.Fatal("the plain words say otherwise")
	}
}

// letters is a text of so many bytes, any of them.
func letters(count, first int) string {
	var s strings.Builder
	for i := range count {
		s.WriteByte(byte(first + i*7 + i/256))
	}
	return s.String()
}
