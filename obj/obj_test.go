package obj

import (
	"bytes"
	"dowel/api"
	"math"
	"slices"
	"strings"
	"sync"
	"testing"
)

// number is a part of an object that is a number: how it is set in full's copy, and what it may be.
type number struct {
	name      string
	set       func(o *api.Object, n int)
	low, high int
}

func numbers() []number {
	return []number{
		{"Size, the first", func(o *api.Object, n int) { o.Types[0].Size = n }, 0, 65535},
		{"Size, the last", func(o *api.Object, n int) { o.Types[2].Size = n }, 0, 65535},
		{"Mod, the first", func(o *api.Object, n int) { o.Types[0].Mod = n }, 0, 255},
		{"Mod, the last", func(o *api.Object, n int) { o.Types[2].Mod = n }, 0, 255},
		{"Base, the first", func(o *api.Object, n int) { o.Types[0].Base = n }, -1, 254},
		{"Base, the last", func(o *api.Object, n int) { o.Types[2].Base = n }, -1, 254},
		{"Data", func(o *api.Object, n int) { o.Data = n }, 0, 255},
		{"At of a command, the first", func(o *api.Object, n int) { o.Cmds[0].At = n }, 0, 65535},
		{"At of a command, the last", func(o *api.Object, n int) { o.Cmds[1].At = n }, 0, 65535},
		{"Kind, the first", func(o *api.Object, n int) { o.Exports[0].Kind = n }, 0, 255},
		{"Kind, the last", func(o *api.Object, n int) { o.Exports[2].Kind = n }, 0, 255},
		{"At of an export, the first", func(o *api.Object, n int) { o.Exports[0].At = n }, 0, 65535},
		{"At of an export, the last", func(o *api.Object, n int) { o.Exports[2].At = n }, 0, 65535},
		{"Ptrs, the first", func(o *api.Object, n int) { o.Ptrs[0] = n }, 0, 255},
		{"Ptrs, the last", func(o *api.Object, n int) { o.Ptrs[2] = n }, 0, 255},
		{"Procs, the first", func(o *api.Object, n int) { o.Procs[0] = n }, 0, 255},
		{"Procs, the last", func(o *api.Object, n int) { o.Procs[1] = n }, 0, 255},
		{"Fix 0", func(o *api.Object, n int) { o.Fix[0] = n }, 0, 65535},
		{"Fix 1", func(o *api.Object, n int) { o.Fix[1] = n }, 0, 65535},
		{"Fix 2", func(o *api.Object, n int) { o.Fix[2] = n }, 0, 65535},
		{"Body", func(o *api.Object, n int) { o.Body = n }, 0, 65535},
	}
}

// edges are numbers at the ends of bytes, and such as have the same lowest bytes.
var edges = []int{
	0, 1, 2, 127, 128, 129, 253, 254, 255, 256, 257, 258, 510, 511, 512, 32767, 32768, 65279, 65280, 65534, 65535, 65536, 65537, 65791, 65792,
	1<<24 - 1, 1 << 24, 1<<31 - 1, 1 << 31, 1<<32 - 1, 1 << 32, 1<<32 + 1, 1<<32 + 255, 1<<48 + 5, math.MaxInt - 1, math.MaxInt,
	-1, -2, -3, -127, -128, -254, -255, -256, -257, -32768, -65535, -65536, -65537, -1 << 31, -1 << 32, -1<<32 + 1, math.MinInt, math.MinInt + 1, math.MinInt + 255,
}

// words are those at the edges of 32 bits, and one whose bytes differ.
var words = []uint32{0, 1, 255, 256, 65535, 65536, 16909060, 67305985, 1<<24 - 1, 1 << 24, 1<<31 - 1, 1 << 31, 4294967294, 4294967295}

// text is a part of an object that is a text.
type text struct {
	name string
	set  func(o *api.Object, s string)
}

func texts() []text {
	return []text{
		{"Name", func(o *api.Object, s string) { o.Name = s }},
		{"Text", func(o *api.Object, s string) { o.Text = s }},
		{"an import's name, the first", func(o *api.Object, s string) { o.Imports[0].Name = s }},
		{"an import's name, the last", func(o *api.Object, s string) { o.Imports[1].Name = s }},
		{"a command's name, the first", func(o *api.Object, s string) { o.Cmds[0].Name = s }},
		{"a command's name, the last", func(o *api.Object, s string) { o.Cmds[1].Name = s }},
	}
}

// list is a part of an object that is a list: how it is made of so many elements, and how many it may have at most.
type list struct {
	name string
	set  func(o *api.Object, count int)
	most int
}

func lists() []list {
	return []list{
		{"Imports", func(o *api.Object, count int) {
			o.Imports = make([]api.Import, count)
			for i := range o.Imports {
				o.Imports[i] = api.Import{Name: letters(i%3, i), Key: uint32(i) * 16909060}
			}
		}, 255},
		{"Types", func(o *api.Object, count int) {
			o.Types = make([]api.Type, count)
			for i := range o.Types {
				o.Types[i] = api.Type{Size: i * 19 % 65536, Mod: i * 7 % 256, Base: i*3%256 - 1}
			}
		}, 255},
		{"Code", func(o *api.Object, count int) {
			o.Code = make([]uint32, count)
			for i := range o.Code {
				o.Code[i] = uint32(i) * 61357
			}
		}, 65535},
		{"Cmds", func(o *api.Object, count int) {
			o.Cmds = make([]api.Entry, count)
			for i := range o.Cmds {
				o.Cmds[i] = api.Entry{Name: letters(i%2, i), At: i * 257 % 65536}
			}
		}, 255},
		{"Exports", func(o *api.Object, count int) {
			o.Exports = make([]api.Export, count)
			for i := range o.Exports {
				o.Exports[i] = api.Export{Kind: i * 5 % 256, At: i * 259 % 65536}
			}
		}, 255},
		{"Ptrs", func(o *api.Object, count int) { o.Ptrs = rising(count, 1) }, 255},
		{"Procs", func(o *api.Object, count int) { o.Procs = rising(count, 3) }, 255},
	}
}

// rising are so many numbers of one byte.
func rising(count, by int) []int {
	all := make([]int, count)
	for i := range all {
		all[i] = i * by % 256
	}
	return all
}

// filled is an object of just so many bytes: what is left behind its code is its text.
func filled(count int) api.Object {
	rest := count - len(bareBytes())
	o := api.Object{Code: make([]uint32, rest/4-10), Text: letters(rest%4+40, count)}
	for i := range o.Code {
		o.Code[i] = uint32(i+1) * 16843009
	}
	return o
}

func TestP12_1Example(t *testing.T) {
	for _, none := range [][]byte{nil, {}, make([]byte, 0, 9), fullBytes()[:0]} {
		o, err := Get(none)
		checkNone(t, o, err)
	}
}

func TestP12_1NothingInIt(t *testing.T) {
	empty := api.Object{
		Imports: []api.Import{}, Types: []api.Type{}, Code: []uint32{}, Cmds: []api.Entry{}, Exports: []api.Export{}, Ptrs: []int{}, Procs: []int{},
	}
	for _, o := range []api.Object{{}, empty, copyOf(empty)} {
		got, err := Put(o)
		if err != nil {
			t.Fatal(err)
		}
		checkBytes(t, got, bareBytes())
	}
	o, err := Get(bareBytes())
	if err != nil || !isNothing(o) {
		t.Fatalf("Get = %v, %v", o, err)
	}
}

func TestP12_1SomeOfEachPart(t *testing.T) {
	got, err := Put(full())
	if err != nil {
		t.Fatal(err)
	}
	checkBytes(t, got, fullBytes())
	o, err := Get(fullBytes())
	if err != nil || !isFull(o) {
		t.Fatalf("Get = %v, %v", o, err)
	}
}

func TestP12_1EachPartAlone(t *testing.T) {
	all := full()
	for _, o := range []api.Object{
		{Name: all.Name}, {Key: all.Key}, {Imports: all.Imports}, {Types: all.Types}, {Data: all.Data}, {Text: all.Text}, {Code: all.Code}, {Cmds: all.Cmds},
		{Exports: all.Exports}, {Ptrs: all.Ptrs}, {Procs: all.Procs}, {Fix: all.Fix}, {Fix: [3]int{1}}, {Fix: [3]int{0, 1}}, {Fix: [3]int{0, 0, 1}}, {Body: all.Body},
	} {
		checkPut(t, o)
		if b, err := Put(o); err != nil || len(b) < 25 {
			t.Fatalf("Put of %v = % x, %v", o, b, err)
		}
	}
}

func TestP12_1NumbersAtTheirEdges(t *testing.T) {
	for _, part := range numbers() {
		t.Run(part.name, func(t *testing.T) {
			near := []int{part.low - 1, part.low, part.low + 1, part.high - 1, part.high, part.high + 1}
			for _, n := range slices.Concat(near, edges) {
				o := full()
				part.set(&o, n)
				_, err := Put(o)
				if may := n >= part.low && n <= part.high; may != (err == nil) {
					t.Fatalf("Put with %d answers %v", n, err)
				}
				checkPut(t, o)
			}
		})
	}
}

func TestP12_1EachNumberThatItMayBe(t *testing.T) {
	for _, part := range numbers() {
		for n := -300; n <= 600; n++ {
			o := full()
			part.set(&o, n)
			checkPut(t, o)
		}
	}
}

func TestP12_1Bases(t *testing.T) {
	for _, c := range []struct {
		base int
		b    byte
		may  bool
	}{{-3, 0, false}, {-2, 0, false}, {-1, 255, true}, {0, 0, true}, {1, 1, true}, {253, 253, true}, {254, 254, true}, {255, 0, false}, {256, 0, false}, {511, 0, false}} {
		b, err := Put(api.Object{Types: []api.Type{{Base: c.base}}})
		if !c.may {
			checkCode(t, err, api.ErrArg)
			checkBytes(t, b, nil)
			continue
		}
		if err != nil || b[8] != 1 || b[12] != c.b {
			t.Fatalf("Base %d is put as % x, %v", c.base, b, err)
		}
		o, err := Get(b)
		if err != nil || o.Types[0].Base != c.base {
			t.Fatalf("Base %d is got as %v, %v", c.base, o, err)
		}
	}
}

func TestP12_1WordsOfAllValues(t *testing.T) {
	for _, word := range words {
		for _, set := range []func(o *api.Object){
			func(o *api.Object) { o.Key = word },
			func(o *api.Object) { o.Imports[0].Key = word },
			func(o *api.Object) { o.Imports[1].Key = word },
			func(o *api.Object) { o.Code[0] = word },
			func(o *api.Object) { o.Code[1] = word },
		} {
			o := full()
			set(&o)
			if _, err := Put(o); err != nil {
				t.Fatalf("Put with %d: %v", word, err)
			}
			checkPut(t, o)
		}
	}
}

func TestP12_1TextsOfAllLengths(t *testing.T) {
	for _, part := range texts() {
		for _, count := range []int{0, 1, 2, 127, 128, 254, 255, 256, 257, 258, 300, 511, 512, 513, 3999, 4000, 4001, 65535, 65536, 65537} {
			for first := range 3 {
				o := full()
				part.set(&o, letters(count, first*100))
				_, err := Put(o)
				if may := count <= 255; may != (err == nil) {
					t.Fatalf("Put with %s of %d bytes answers %v", part.name, count, err)
				}
				checkPut(t, o)
			}
		}
	}
}

func TestP12_1TextsOfAnyBytes(t *testing.T) {
	for _, part := range texts() {
		for b := range 256 {
			for _, s := range []string{string([]byte{byte(b)}), string([]byte{'a', byte(b)}), string([]byte{byte(b), 0, 255}), strings.Repeat(string([]byte{byte(b)}), 255)} {
				o := full()
				part.set(&o, s)
				checkPut(t, o)
			}
		}
		for _, s := range []string{"", "\x00", "DW", "é", "\xff\xfe", "\xed\xa0\x80", "日本", "a\n\r\t", string(fullBytes())} {
			o := full()
			part.set(&o, s)
			if _, err := Put(o); err != nil {
				t.Fatalf("Put with %s %q: %v", part.name, s, err)
			}
			checkPut(t, o)
		}
	}
}

func TestP12_1ListsOfAllLengths(t *testing.T) {
	for _, part := range lists() {
		for _, count := range []int{0, 1, 2, 3, 127, 128, 129, 253, 254, 255, 256, 257, 258, 300, 400, 511, 512, 513, 700, 900, 950, 1000, 4000, 65535, 65536, 65537, 65792, 131072} {
			for _, o := range []api.Object{{}, full()} {
				part.set(&o, count)
				checkPut(t, o)
			}
		}
		for _, count := range []int{0, 1, 254, 255, 256, 257} {
			o := api.Object{Name: "L"}
			part.set(&o, count)
			_, err := Put(o)
			if may := count <= part.most; may != (err == nil) {
				t.Fatalf("Put with %d of %s answers %v", count, part.name, err)
			}
		}
	}
}

func TestP12_1CountsOfCode(t *testing.T) {
	for _, count := range []int{0, 1, 254, 255, 256, 257, 511, 512, 993} {
		o := api.Object{}
		lists()[2].set(&o, count)
		b, err := Put(o)
		if err != nil || len(b) != 25+4*count || int(b[11])+256*int(b[12]) != count {
			t.Fatalf("%d words are put as %d bytes, %v", count, len(b), err)
		}
	}
	o := api.Object{}
	lists()[2].set(&o, 994)
	b, err := Put(o)
	checkCode(t, err, api.ErrArg)
	checkBytes(t, b, nil)
}

func TestP12_1AsManyBytesAsAFileMayHave(t *testing.T) {
	for count := 3900; count <= 4100; count++ {
		o := filled(count)
		checkPut(t, o)
		b, err := Put(o)
		if count > 4000 {
			checkCode(t, err, api.ErrArg)
			checkBytes(t, b, nil)
			continue
		}
		if err != nil || len(b) != count {
			t.Fatalf("%d bytes are put as %d, %v", count, len(b), err)
		}
	}
}

func TestP12_1MoreBytesThanAFileMayHave(t *testing.T) {
	for _, code := range []int{993, 994, 1000, 4000, 65535} {
		b := slices.Concat(bareBytes()[:11], []byte{byte(code), byte(code >> 8)}, bytes.Repeat([]byte{1, 2, 3, 4}, code), bareBytes()[13:])
		o, err := Get(b)
		if err != nil || len(o.Code) != code || o.Code[0] != 67305985 || o.Code[code-1] != 67305985 {
			t.Fatalf("%d words are got as %d, %v", code, len(o.Code), err)
		}
		checkGet(t, b)
		_, err = Put(o)
		if may := code == 993; may != (err == nil) {
			t.Fatalf("%d words are put as %v", code, err)
		}
	}
}

func TestP12_1CutOffAtEveryPlace(t *testing.T) {
	most := filled(4000)
	long, err := Put(most)
	if err != nil {
		t.Fatal(err)
	}
	for _, whole := range [][]byte{bareBytes(), fullBytes(), long} {
		for to := range whole {
			o, err := Get(whole[:to])
			checkNone(t, o, err)
			o, err = Get(slices.Clip(slices.Clone(whole[:to])))
			checkNone(t, o, err)
		}
	}
}

func TestP12_1MoreBytesBehind(t *testing.T) {
	for _, whole := range [][]byte{bareBytes(), fullBytes()} {
		for b := range 256 {
			o, err := Get(slices.Concat(whole, []byte{byte(b)}))
			checkNone(t, o, err)
		}
		for _, more := range [][]byte{{0, 0}, {0, 0, 0, 0}, make([]byte, 25), make([]byte, 5000), whole, fullBytes(), bareBytes()} {
			o, err := Get(slices.Concat(whole, more))
			checkNone(t, o, err)
			o, err = Get(slices.Concat(more, whole))
			if !bytes.HasPrefix(more, []byte("DW")) {
				checkNone(t, o, err)
			}
		}
	}
}

func TestP12_1OtherFirstBytes(t *testing.T) {
	for _, whole := range [][]byte{bareBytes(), fullBytes()} {
		for first := range 256 {
			for second := range 256 {
				b := slices.Clone(whole)
				b[0], b[1] = byte(first), byte(second)
				o, err := Get(b)
				if first == 68 && second == 87 {
					if err != nil {
						t.Fatal(err)
					}
					continue
				}
				checkNone(t, o, err)
			}
		}
	}
	for _, s := range []string{"D", "W", "DW", "WD", "dw", "DDW", "DWD", "\x00DW"} {
		o, err := Get([]byte(s))
		checkNone(t, o, err)
		o, err = Get(append([]byte(s), bareBytes()[2:]...))
		if s != "DW" {
			checkNone(t, o, err)
		}
	}
}

func TestP12_1ListsThatBreakOff(t *testing.T) {
	for _, whole := range [][]byte{bareBytes(), fullBytes()} {
		for at := range whole {
			for n := range 256 {
				b := slices.Clone(whole)
				b[at] = byte(n)
				checkGet(t, b)
			}
		}
	}
	for _, b := range [][]byte{
		{68, 87, 255}, {68, 87, 1}, {68, 87, 0, 0, 0, 0, 0, 255}, {68, 87, 0, 0, 0, 0, 0, 0, 255}, {68, 87, 0, 0, 0, 0, 0, 0, 0, 0, 255},
		{68, 87, 0, 0, 0, 0, 0, 0, 0, 0, 0, 255, 255}, {68, 87, 0, 0, 0, 0, 0, 0, 0, 0, 0, 255, 255, 1, 2, 3, 4},
		{68, 87, 0, 0, 0, 0, 0, 0, 0, 0, 0, 0, 0, 255}, {68, 87, 0, 0, 0, 0, 0, 0, 0, 0, 0, 0, 0, 0, 255, 1, 2},
	} {
		o, err := Get(b)
		checkNone(t, o, err)
	}
}

// differing are full, and objects that differ from it in just one part, each one otherwise.
func differing() []api.Object {
	changes := []func(o *api.Object){
		func(*api.Object) {},
		func(o *api.Object) { o.Key++ },
		func(o *api.Object) { o.Imports[0].Key++ },
		func(o *api.Object) { o.Imports[1].Key++ },
		func(o *api.Object) { o.Imports = o.Imports[:1] },
		func(o *api.Object) { o.Imports = append(o.Imports, api.Import{}) },
		func(o *api.Object) { o.Types = o.Types[:2] },
		func(o *api.Object) { o.Types = append(o.Types, api.Type{}) },
		func(o *api.Object) { o.Code[0]++ },
		func(o *api.Object) { o.Code[1]++ },
		func(o *api.Object) { o.Code = o.Code[:1] },
		func(o *api.Object) { o.Code = append(o.Code, 0) },
		func(o *api.Object) { o.Cmds = o.Cmds[:1] },
		func(o *api.Object) { o.Cmds = append(o.Cmds, api.Entry{}) },
		func(o *api.Object) { o.Exports = o.Exports[:2] },
		func(o *api.Object) { o.Exports = append(o.Exports, api.Export{}) },
		func(o *api.Object) { o.Ptrs = o.Ptrs[:2] },
		func(o *api.Object) { o.Ptrs = append(o.Ptrs, 0) },
		func(o *api.Object) { o.Procs = o.Procs[:1] },
		func(o *api.Object) { o.Procs = append(o.Procs, 0) },
	}
	for _, part := range numbers() {
		changes = append(changes, func(o *api.Object) { part.set(o, 100) }, func(o *api.Object) { part.set(o, -100) })
	}
	for _, part := range texts() {
		changes = append(changes, func(o *api.Object) { part.set(o, "Other") }, func(o *api.Object) { part.set(o, "Othes") })
	}
	for _, part := range lists() {
		changes = append(changes, func(o *api.Object) { part.set(o, 0) })
	}
	var all []api.Object
	for _, change := range changes {
		o := full()
		change(&o)
		all = append(all, o)
	}
	return all
}

func TestP12_1SameOfObjectsThatDifferInOnePart(t *testing.T) {
	all := differing()
	for i, a := range all {
		for j, b := range all {
			checkSame(t, a, copyOf(b), i == j)
		}
		checkSame(t, a, api.Object{}, false)
		checkSame(t, a, a, true)
	}
}

func TestP12_1SameOfNilAndEmptyLists(t *testing.T) {
	checkSame(t, api.Object{}, api.Object{}, true)
	checkSame(t, full(), full(), true)
	for _, part := range lists() {
		for _, o := range []api.Object{{}, full()} {
			a, b := o, o
			part.set(&a, 0) // empty, but not nil
			b = without(part.name, b)
			checkSame(t, a, b, true)
			checkSame(t, a, a, true)
			checkSame(t, b, b, true)
			part.set(&a, 1)
			checkSame(t, a, b, false)
		}
	}
}

// without has nil for one list.
func without(name string, o api.Object) api.Object {
	switch name {
	case "Imports":
		o.Imports = nil
	case "Types":
		o.Types = nil
	case "Code":
		o.Code = nil
	case "Cmds":
		o.Cmds = nil
	case "Exports":
		o.Exports = nil
	case "Ptrs":
		o.Ptrs = nil
	case "Procs":
		o.Procs = nil
	}
	return o
}

func TestP12_1SameOfElementsInAnotherOrder(t *testing.T) {
	for _, turn := range []func(o *api.Object){
		func(o *api.Object) { slices.Reverse(o.Imports) },
		func(o *api.Object) { slices.Reverse(o.Types) },
		func(o *api.Object) { slices.Reverse(o.Code) },
		func(o *api.Object) { slices.Reverse(o.Cmds) },
		func(o *api.Object) { slices.Reverse(o.Exports) },
		func(o *api.Object) { slices.Reverse(o.Ptrs) },
		func(o *api.Object) { slices.Reverse(o.Procs) },
		func(o *api.Object) { slices.Reverse(o.Fix[:]) },
		func(o *api.Object) { o.Ptrs, o.Procs = o.Procs, o.Ptrs },
		func(o *api.Object) { o.Name, o.Text = o.Text, o.Name },
	} {
		o := full()
		turn(&o)
		checkSame(t, o, full(), false)
		checkPut(t, o)
	}
}

// TestP12_1SameOfWhatCantBePut holds for all objects, also for those that have no bytes.
func TestP12_1SameOfWhatCantBePut(t *testing.T) {
	for _, part := range numbers() {
		for i, n := range edges {
			for j, m := range edges {
				a, b := full(), full()
				part.set(&a, n)
				part.set(&b, m)
				checkSame(t, a, b, i == j)
			}
		}
	}
	for _, part := range texts() {
		for _, count := range []int{254, 255, 256, 257, 512, 5000} {
			a, b, c := full(), full(), full()
			part.set(&a, letters(count, 1))
			part.set(&b, letters(count+1, 1))
			part.set(&c, letters(count, 1)+"")
			checkSame(t, a, b, false)
			checkSame(t, a, c, true)
			part.set(&b, letters(count-1, 1)+"\xfb\xfb"[:1])
			checkSame(t, a, b, letters(count, 1) == letters(count-1, 1)+"\xfb")
		}
	}
	for _, part := range lists() {
		for _, count := range []int{255, 256, 257, 512, 65536, 70000} {
			a, b, c := full(), full(), full()
			part.set(&a, count)
			part.set(&b, count+1)
			part.set(&c, count)
			checkSame(t, a, b, false)
			checkSame(t, a, c, true)
		}
	}
}

func TestP12_1R3WithAnErrorNothingIsTold(t *testing.T) {
	for _, o := range differing() {
		b, err := Put(o)
		if _, may := plainPut(o); !may {
			checkCode(t, err, api.ErrArg)
			if b != nil {
				t.Fatalf("with ErrArg % x is told", b)
			}
		}
	}
	for to := range fullBytes() {
		o, err := Get(fullBytes()[:to])
		checkNone(t, o, err)
		if o.Imports != nil || o.Types != nil || o.Code != nil || o.Cmds != nil || o.Exports != nil || o.Ptrs != nil || o.Procs != nil {
			t.Fatalf("with ErrForm %#v is told", o)
		}
	}
}

func TestP1NoneOfTheCallsPanics(t *testing.T) {
	for _, n := range edges {
		for _, part := range numbers() {
			o := full()
			part.set(&o, n)
			_, _ = Put(o)
			_ = Same(o, full())
			_ = Same(full(), o)
		}
	}
	for first := range 256 {
		for count := range 300 {
			b := bytes.Repeat([]byte{byte(first)}, count)
			_, _ = Get(b)
			_, _ = Get(append([]byte("DW"), b...))
		}
	}
}

// TestP1EndsWithManyElementsOfLongTexts would need 32 gigabytes, if all of it were written ahead of what it comes to.
func TestP1EndsWithManyElementsOfLongTexts(t *testing.T) {
	long := letters(1<<20, 5)
	o := api.Object{Imports: make([]api.Import, 1<<20), Cmds: make([]api.Entry, 1<<20)}
	for i := range o.Imports {
		o.Imports[i].Name, o.Cmds[i].Name = long, long
	}
	b, err := Put(o)
	checkCode(t, err, api.ErrArg)
	checkBytes(t, b, nil)
}

func TestR2CallsAtTheSameTime(t *testing.T) {
	shared, b := full(), fullBytes()
	var group sync.WaitGroup
	bad := make([]int, 8)
	for worker := range bad {
		group.Go(func() {
			for range 200 {
				put, err := Put(shared)
				got, errGet := Get(b)
				if err != nil || errGet != nil || !bytes.Equal(put, b) || !Same(got, shared) {
					bad[worker]++
				}
			}
		})
	}
	group.Wait()
	if slices.Max(bad) > 0 {
		t.Fatal(bad)
	}
}
