package files

import (
	"bytes"
	"dowel/api"
	"errors"
	"math/rand"
	"regexp"
	"slices"
	"strings"
	"testing"
)

// wrong are texts that are no names: chapter 9.
var wrong = []string{
	"", "2B", "0", "9", "1a", " ", " a", "a ", "a b", "a_", "_a", "a-b", "a.b", "../a", "/", "a/", "a\\b", "a:", "a\n", "\na", "\x00", "a\x00", "\x00a",
	"`a", "a{", "@a", "a[", "é", "aé", "ж", "\u212A", "中", "\x80", "a\xFF", "\xC1\x81",
	"abcdefghijklmnopq", "ABCDEFGHIJKLMNOPQ", "a0000000000000000", "01234567890123456", "aaaaaaaaaaaaaaaa ", "abcdefghijklmno_",
}

// pairs are files: by names, their bytes as a text.
type pairs map[string]string

// form is chapter 9's words, in another tongue.
var form = regexp.MustCompile(`\A[a-zA-Z][a-zA-Z0-9]{0,15}\z`)

// some are bytes that differ with their number and with where they begin.
func some(count, first int) []byte {
	b := make([]byte, count)
	for i := range b {
		b[i] = byte(first + i*7 + i/256)
	}
	return b
}

// numbered are names, of n up to 415, all of which differ.
func numbered(n int) string {
	return string(rune('a'+n%26)) + strings.Repeat("x", n/26)
}

// filled has so many files, the first of no bytes.
func filled(t *testing.T, count int) (*Files, pairs) {
	t.Helper()
	f, want := New(), pairs{}
	for n := range count {
		put(t, f, numbered(n), some(n*5, n))
		want[numbered(n)] = string(some(n*5, n))
	}
	checkFiles(t, f, want)
	return f, want
}

func put(t *testing.T, f *Files, s string, b []byte) {
	t.Helper()
	if err := f.Put(s, b); err != nil {
		t.Fatalf("Put(%.60q) of %d bytes: %v", s, len(b), err)
	}
}

func remove(t *testing.T, f *Files, s string) {
	t.Helper()
	if err := f.Delete(s); err != nil {
		t.Fatalf("Delete(%.60q): %v", s, err)
	}
}

func checkGet(t *testing.T, f *Files, s, want string) {
	t.Helper()
	b, err := f.Get(s)
	if err != nil {
		t.Fatalf("Get(%.60q): %v", s, err)
	}
	if string(b) != want {
		t.Fatalf("Get(%.60q) is %d bytes, %.20q, want %d, %.20q", s, len(b), b, len(want), want)
	}
}

// checkCode asks for the Code itself, not for something that holds it.
func checkCode(t *testing.T, err error, want api.Code) {
	t.Helper()
	if code, itself := err.(api.Code); !itself || code != want {
		t.Fatalf("the error is %v, want %v itself", err, want)
	}
	if !errors.Is(err, want) {
		t.Fatalf("errors.Is does not find %v", want)
	}
}

// checkNoGet asks for the error, and for no bytes.
func checkNoGet(t *testing.T, f *Files, s string, want api.Code) {
	t.Helper()
	b, err := f.Get(s)
	if err == nil || len(b) != 0 {
		t.Fatalf("Get(%.60q) is %d bytes, %v, want none, %v", s, len(b), err, want)
	}
	checkCode(t, err, want)
}

// checkNoPut asks for the error, and that all is as it was.
func checkNoPut(t *testing.T, f *Files, s string, b []byte, want api.Code) {
	t.Helper()
	ahead := told(t, f)
	err := f.Put(s, b)
	if err == nil {
		t.Fatalf("Put(%.60q) of %d bytes was done, want %v", s, len(b), want)
	}
	checkCode(t, err, want)
	checkFiles(t, f, ahead)
	if _, there := ahead[s]; !there {
		checkIsNone(t, f, s)
	}
}

func checkNoDelete(t *testing.T, f *Files, s string, want api.Code) {
	t.Helper()
	ahead := told(t, f)
	err := f.Delete(s)
	if err == nil {
		t.Fatalf("Delete(%.60q) was done, want %v", s, want)
	}
	checkCode(t, err, want)
	checkFiles(t, f, ahead)
}

// checkIsNone asks that there is no file of that text, be it a name or not.
func checkIsNone(t *testing.T, f *Files, s string) {
	t.Helper()
	if form.MatchString(s) {
		checkNoGet(t, f, s, api.ErrNone)
	} else {
		checkNoGet(t, f, s, api.ErrName)
	}
}

func checkNames(t *testing.T, f *Files, want ...string) {
	t.Helper()
	if got := f.Names(); !slices.Equal(got, want) {
		t.Fatalf("Names() = %q, want %q", got, want)
	}
}

// told is what Names and Get tell, all of it.
func told(t *testing.T, f *Files) pairs {
	t.Helper()
	p := pairs{}
	for _, s := range f.Names() {
		b, err := f.Get(s)
		if err != nil {
			t.Fatalf("Get(%q), which Names tells: %v", s, err)
		}
		p[s] = string(b)
	}
	return p
}

// rising are names as Names is to tell them.
func (p pairs) rising() []string {
	var l []string
	for s := range p {
		l = append(l, s)
	}
	slices.SortFunc(l, func(x, y string) int { return bytes.Compare([]byte(x), []byte(y)) })
	return l
}

func checkFiles(t *testing.T, f *Files, want pairs) {
	t.Helper()
	checkNames(t, f, want.rising()...)
	for s, b := range want {
		checkGet(t, f, s, b)
	}
}

func TestP10_1Example(t *testing.T) {
	f := New()
	put(t, f, "a", []byte("1"))
	remove(t, f, "a")
	checkNoGet(t, f, "a", api.ErrNone)
	checkNames(t, f)
}

func TestP10_1NoFilesAtFirst(t *testing.T) {
	f := New()
	checkNames(t, f)
	for _, s := range []string{"a", "Z", "B2", "abcdefghijklmnop"} {
		checkNoGet(t, f, s, api.ErrNone)
		checkNoDelete(t, f, s, api.ErrNone)
	}
	for _, s := range wrong {
		checkNoGet(t, f, s, api.ErrName)
		checkNoDelete(t, f, s, api.ErrName)
	}
	checkNames(t, f)
}

func TestP10_1WhatIsPutIsGot(t *testing.T) {
	f := New()
	put(t, f, "List", []byte("one"))
	checkFiles(t, f, pairs{"List": "one"})
	put(t, f, "B2", []byte{0, 255, 0, 128, 10})
	checkFiles(t, f, pairs{"List": "one", "B2": "\x00\xFF\x00\x80\n"})
	put(t, f, "Z", []byte("one")) // files may be the same
	checkFiles(t, f, pairs{"List": "one", "B2": "\x00\xFF\x00\x80\n", "Z": "one"})
	checkNoGet(t, f, "Lis", api.ErrNone)
	checkNoGet(t, f, "list", api.ErrNone)
}

func TestP10_1EachCountOfBytes(t *testing.T) {
	f := New()
	for count := 0; count <= 4000; count++ {
		put(t, f, "a", some(count, count))
		checkGet(t, f, "a", string(some(count, count)))
	}
	for count := 4000; count >= 0; count-- {
		put(t, f, "a", some(count, 1))
		checkGet(t, f, "a", string(some(count, 1)))
	}
	checkNames(t, f, "a")
}

func TestP10_1EachByteAsAFile(t *testing.T) {
	f := New()
	for n := range 256 {
		for _, count := range []int{1, 2, 4000} {
			put(t, f, "a", bytes.Repeat([]byte{byte(n)}, count))
			checkGet(t, f, "a", strings.Repeat(string([]byte{byte(n)}), count))
		}
	}
}

// A file of no bytes is one: it is told, got, deleted, and counted.
func TestP10_1FilesOfNoBytes(t *testing.T) {
	for _, none := range [][]byte{nil, {}, make([]byte, 0, 100), some(9, 9)[4:4]} {
		f := New()
		put(t, f, "a", none)
		checkFiles(t, f, pairs{"a": ""})
		put(t, f, "b", []byte("b"))
		put(t, f, "b", none)
		checkFiles(t, f, pairs{"a": "", "b": ""})
		put(t, f, "a", []byte("a"))
		checkFiles(t, f, pairs{"a": "a", "b": ""})
		remove(t, f, "b")
		checkNoDelete(t, f, "b", api.ErrNone)
		checkNoGet(t, f, "b", api.ErrNone)
		checkFiles(t, f, pairs{"a": "a"})
		many, want := New(), pairs{}
		for n := range 32 {
			put(t, many, numbered(n), none)
			want[numbered(n)] = ""
		}
		checkFiles(t, many, want)
		checkNoPut(t, many, "new", none, api.ErrTable)
	}
}

func TestP10_1TooManyBytes(t *testing.T) {
	for _, count := range []int{4001, 4002, 4004, 4096, 8000, 8001, 65535, 65536, 65537, 1 << 24} {
		b := make([]byte, count)
		f := New()
		checkNoPut(t, f, "a", b, api.ErrLarge)
		checkNames(t, f)
		put(t, f, "a", []byte("it"))
		put(t, f, "none", nil)
		checkNoPut(t, f, "a", b, api.ErrLarge)
		checkNoPut(t, f, "none", b, api.ErrLarge)
		checkNoPut(t, f, "b", b, api.ErrLarge)
		checkFiles(t, f, pairs{"a": "it", "none": ""})
		put(t, f, "b", b[:4000])
		checkFiles(t, f, pairs{"a": "it", "none": "", "b": string(make([]byte, 4000))})
	}
	if api.MaxFile != 4000 {
		t.Fatal("MaxFile")
	}
}

// How much room there is behind what is put doesn't matter.
func TestP10_1BytesAreCountedNotRoom(t *testing.T) {
	f := New()
	put(t, f, "a", make([]byte, 4000, 9000))
	put(t, f, "b", make([]byte, 0, 4001))
	checkNoPut(t, f, "c", make([]byte, 4001, 9000), api.ErrLarge)
	checkFiles(t, f, pairs{"a": string(make([]byte, 4000)), "b": ""})
}

func TestP10_1UpTo32Files(t *testing.T) {
	f, want := New(), pairs{}
	for n := range 32 {
		put(t, f, numbered(n), some(n, n))
		want[numbered(n)] = string(some(n, n))
		checkFiles(t, f, want)
		if len(f.Names()) != n+1 {
			t.Fatalf("%d files, want %d", len(f.Names()), n+1)
		}
	}
	for n := 32; n < 70; n++ {
		checkNoPut(t, f, numbered(n), some(n, n), api.ErrTable)
		checkNoPut(t, f, numbered(n), nil, api.ErrTable)
		checkNoPut(t, f, numbered(n), make([]byte, 4000), api.ErrTable)
	}
	checkFiles(t, f, want)
	if api.MaxFiles != 32 {
		t.Fatal("MaxFiles")
	}
}

// 32 files of 4000 bytes each: nothing is said of all together.
func TestP10_1AllOfTheMostBytes(t *testing.T) {
	f, want := New(), pairs{}
	for n := range 32 {
		put(t, f, numbered(n), some(4000, n))
		want[numbered(n)] = string(some(4000, n))
	}
	checkFiles(t, f, want)
	checkNoPut(t, f, "new", nil, api.ErrTable)
}

// Under the same name: more bytes, fewer, none, and some again; at each number of files.
func TestP10_1PutAgain(t *testing.T) {
	for _, count := range []int{1, 2, 31, 32} {
		f, want := filled(t, count)
		for n := range count {
			for _, length := range []int{4, 4000, 3, 4, 0, 1, 0, 0, 4000, 4000, 3999, 2} {
				put(t, f, numbered(n), some(length, length+n))
				want[numbered(n)] = string(some(length, length+n))
				checkFiles(t, f, want)
			}
		}
	}
}

// What is put again counts once, however often.
func TestP10_1PutAgainTakesNoRoom(t *testing.T) {
	f, want := filled(t, 31)
	for n := range 100 {
		put(t, f, numbered(n%31), some(3, n))
		want[numbered(n%31)] = string(some(3, n))
	}
	checkFiles(t, f, want)
	put(t, f, "last", nil)
	want["last"] = ""
	checkNoPut(t, f, "new", nil, api.ErrTable)
	for n := range 100 {
		put(t, f, numbered(n%31), some(5, n))
		want[numbered(n%31)] = string(some(5, n))
	}
	checkFiles(t, f, want)
	checkNoPut(t, f, "new", nil, api.ErrTable)
}

func TestP10_1DeletedAndPutAgain(t *testing.T) {
	for _, count := range []int{1, 2, 31, 32} {
		f, want := filled(t, count)
		for n := range count {
			s := numbered(n)
			remove(t, f, s)
			delete(want, s)
			checkFiles(t, f, want)
			checkNoGet(t, f, s, api.ErrNone)
			checkNoDelete(t, f, s, api.ErrNone)
			put(t, f, s, some(n, 99))
			want[s] = string(some(n, 99))
			checkFiles(t, f, want)
		}
	}
}

// Of 32 files one is deleted: just one other one may be put, and that of the old name no more.
func TestP10_1RoomOfWhatIsDeleted(t *testing.T) {
	f, want := filled(t, 32)
	for n := range 32 {
		remove(t, f, numbered(n))
		delete(want, numbered(n))
		put(t, f, "N"+numbered(n), some(n, 7))
		want["N"+numbered(n)] = string(some(n, 7))
		checkNoPut(t, f, numbered(n), nil, api.ErrTable)
		checkNoPut(t, f, "another", nil, api.ErrTable)
		checkFiles(t, f, want)
	}
	for n := range 32 {
		remove(t, f, "N"+numbered(n))
		delete(want, "N"+numbered(n))
		checkFiles(t, f, want)
	}
	for n := range 32 {
		put(t, f, numbered(n), nil)
	}
	checkNoPut(t, f, "another", nil, api.ErrTable)
}

// There never are more than 32 at once, but any number of them one behind the other.
func TestP10_1ManyFilesOneBehindTheOther(t *testing.T) {
	f, want := filled(t, 32)
	for n := 32; n < 300; n++ {
		checkNoPut(t, f, numbered(n), nil, api.ErrTable)
		remove(t, f, numbered(n-32))
		delete(want, numbered(n-32))
		put(t, f, numbered(n), some(n, n))
		want[numbered(n)] = string(some(n, n))
	}
	checkFiles(t, f, want)
}

func TestP10_1WhatIsNotThere(t *testing.T) {
	for _, count := range []int{0, 1, 31, 32} {
		f, _ := filled(t, count)
		for _, s := range []string{"never", "A", "B2", numbered(32), numbered(40), "ABCDEFGHIJKLMNOP"} {
			checkNoGet(t, f, s, api.ErrNone)
			checkNoDelete(t, f, s, api.ErrNone)
		}
	}
}

func TestP10_1NoNames(t *testing.T) {
	for _, count := range []int{0, 1, 31, 32} {
		f, want := filled(t, count)
		for _, s := range wrong {
			checkNoGet(t, f, s, api.ErrName)
			checkNoDelete(t, f, s, api.ErrName)
			for _, b := range [][]byte{nil, {}, []byte("it"), make([]byte, 4000)} {
				checkNoPut(t, f, s, b, api.ErrName)
			}
		}
		checkFiles(t, f, want)
	}
}

// What is nearly the name of a file isn't taken for it.
func TestP10_1NearlyTheNameOfAFile(t *testing.T) {
	f := New()
	put(t, f, "abcdefghijklmnop", []byte("16"))
	put(t, f, "ab", []byte("2"))
	for _, s := range []string{"abcdefghijklmnopq", "abcdefghijklmnop ", "abcdefghijklmnop\x00", "ab ", " ab", "ab\x00", "ab\n", "a b", "äb", "_ab", "0ab"} {
		checkNoGet(t, f, s, api.ErrName)
		checkNoDelete(t, f, s, api.ErrName)
		checkNoPut(t, f, s, nil, api.ErrName)
	}
	for _, s := range []string{"abcdefghijklmno", "bcdefghijklmnop", "a", "b", "abc", "ba", "AB", "aB", "Ab", "ab0"} {
		checkNoGet(t, f, s, api.ErrNone)
		checkNoDelete(t, f, s, api.ErrNone)
	}
	checkFiles(t, f, pairs{"abcdefghijklmnop": "16", "ab": "2"})
}

// Several errors together: no name, then too many bytes, then no room.
func TestP10_1R1OrderOfErrors(t *testing.T) {
	full, want := filled(t, 32)
	for _, count := range []int{4001, 4002, 1 << 20} {
		large := make([]byte, count)
		for _, s := range wrong {
			checkNoPut(t, full, s, large, api.ErrName)
		}
		for _, s := range []string{"new", "A", "ABCDEFGHIJKLMNOP"} {
			checkNoPut(t, full, s, large, api.ErrLarge)
		}
		for n := range 32 {
			checkNoPut(t, full, numbered(n), large, api.ErrLarge)
		}
	}
	for _, s := range wrong {
		checkNoPut(t, full, s, nil, api.ErrName)
		checkNoPut(t, full, s, make([]byte, 4000), api.ErrName)
	}
	checkNoPut(t, full, "new", nil, api.ErrTable)
	checkNoPut(t, full, "new", make([]byte, 4000), api.ErrTable)
	checkFiles(t, full, want)
	for _, count := range []int{0, 1, 31} {
		f, _ := filled(t, count)
		for _, s := range wrong {
			checkNoPut(t, f, s, make([]byte, 4001), api.ErrName)
		}
		checkNoPut(t, f, "new", make([]byte, 4001), api.ErrLarge)
		put(t, f, "new", make([]byte, 4000))
	}
}

// What was refused takes no room.
func TestP10_1WhatIsRefusedLeavesRoom(t *testing.T) {
	f, want := filled(t, 31)
	for n := range 40 {
		checkNoPut(t, f, "new", make([]byte, 4001), api.ErrLarge)
		checkNoPut(t, f, numbered(n), make([]byte, 4001), api.ErrLarge)
		checkNoPut(t, f, "_new", nil, api.ErrName)
		checkNoDelete(t, f, "new", api.ErrNone)
		checkNoDelete(t, f, "_new", api.ErrName)
	}
	put(t, f, "last", nil)
	want["last"] = ""
	for range 40 {
		checkNoDelete(t, f, "new", api.ErrNone)
		checkNoDelete(t, f, "_new", api.ErrName)
		checkNoPut(t, f, "new", nil, api.ErrTable)
	}
	checkFiles(t, f, want)
	remove(t, f, "last")
	put(t, f, "new", nil)
}

// apart are lists of names that could be taken for each other.
func apart() [][]string {
	var beginnings, tails, differ []string
	for n := 1; n <= 16; n++ {
		beginnings = append(beginnings, "abcdefghijklmnop"[:n])
		tails = append(tails, "abcdefghijklmnop"[n-1:])
		differ = append(differ, strings.Repeat("a", n-1)+"b"+strings.Repeat("a", 16-n))
	}
	return [][]string{
		beginnings, tails, differ,
		{"ab", "aB", "Ab", "AB", "a0", "A0", "a9", "b0", "B0"},
		{"a", "aa", "aaa", "a0", "a00", "a1", "a01", "a10", "A", "AA", "Z", "z", "Zz", "zZ"},
		{"q1", "q2", "q10", "q9", "q01", "q100", "Q1", "Q10"},
		{"ABCDEFGHIJKLMNOP", "abcdefghijklmnop", "ABCDEFGHIJKLMNOp", "aBCDEFGHIJKLMNOP", "A123456789012345", "a123456789012345", "A12345678901234B"},
		{"k", "K", "s", "S", "i", "I"},
	}
}

func TestP10_1NamesThatAreNearlyTheSame(t *testing.T) {
	for _, l := range apart() {
		f, want := New(), pairs{}
		for i, s := range l {
			put(t, f, s, some(i+1, i))
			want[s] = string(some(i+1, i))
		}
		checkFiles(t, f, want)
		for i, s := range l {
			put(t, f, s, some(i+2, 50+i))
			want[s] = string(some(i+2, 50+i))
			checkFiles(t, f, want)
		}
		for _, s := range l {
			remove(t, f, s)
			delete(want, s)
			checkFiles(t, f, want)
			checkNoGet(t, f, s, api.ErrNone)
		}
	}
}

func TestP10_1NamesRiseByBytes(t *testing.T) {
	rise := []string{
		"A", "A0", "A00", "A01", "A1", "A10", "A2", "A9", "AA", "AZ", "Aa", "Az", "B", "B2", "M", "Z", "Z9", "ZZ", "Zz",
		"a", "a0", "a10", "a2", "aA", "aZ", "aa", "aaa", "ab", "abcdefghijklmnop", "b", "z", "zzzzzzzzzzzzzzzz",
	}
	if len(rise) != 32 {
		t.Fatalf("%d names, want 32", len(rise))
	}
	r := rand.New(rand.NewSource(101))
	for turn := range 60 {
		order := slices.Clone(rise)
		switch turn {
		case 0:
		case 1:
			slices.Reverse(order)
		default:
			r.Shuffle(len(order), func(i, j int) { order[i], order[j] = order[j], order[i] })
		}
		f := New()
		for _, s := range order {
			put(t, f, s, []byte(s))
		}
		for range 3 {
			checkNames(t, f, rise...)
		}
		for n, s := range order[:20] {
			remove(t, f, s)
			left := slices.DeleteFunc(slices.Clone(rise), func(x string) bool { return slices.Contains(order[:n+1], x) })
			checkNames(t, f, left...)
		}
		for _, s := range order[:20] {
			put(t, f, s, nil)
		}
		checkNames(t, f, rise...)
	}
}

// Names are asked by what they are, not by where their signs lie.
func TestP10_1NamesOutOfOtherTexts(t *testing.T) {
	f := New()
	long := "_" + strings.Repeat("ab", 1000) + "_"
	put(t, f, long[1:17], []byte("16"))
	put(t, f, long[2:3], []byte("b"))
	checkFiles(t, f, pairs{"abababababababab": "16", "b": "b"})
	checkGet(t, f, string([]byte{'b'}), "b")
	checkGet(t, f, long[101:117], "16")
	remove(t, f, long[201:217])
	checkFiles(t, f, pairs{"b": "b"})
}

func TestP10_2R2WhatIsHandedInIsNotChanged(t *testing.T) {
	for _, count := range []int{0, 1, 40, 3999, 4000, 4001, 5000} {
		all := some(count+20, 3)
		want := string(all)
		b := all[10 : 10+count]
		f := New()
		for range 2 { // new, and under a name that is there
			f.Put("a", b)
			f.Put("2B", b)
			f.Get("a")
		}
		f.Put("a", []byte("other"))
		f.Put("a", nil)
		f.Delete("a")
		if string(all) != want {
			t.Fatalf("of %d bytes that were handed in some were changed", count)
		}
	}
}

func TestP10_2R2WhatIsHandedInIsNotKept(t *testing.T) {
	for _, count := range []int{1, 2, 40, 3999, 4000} {
		all := some(count+20, 3)
		b := all[10 : 10+count]
		f := New()
		put(t, f, "a", b)
		put(t, f, "old", nil)
		put(t, f, "old", b) // where there was a file already
		want := string(some(count+20, 3)[10 : 10+count])
		clear(all)
		checkFiles(t, f, pairs{"a": want, "old": want})
		put(t, f, "b", b) // the same memory, with other bytes
		for i := range all {
			all[i] = 77
		}
		checkFiles(t, f, pairs{"a": want, "old": want, "b": string(make([]byte, count))})
		put(t, f, "a", b)
		all[10] = 78
		checkFiles(t, f, pairs{"a": strings.Repeat("M", count), "old": want, "b": string(make([]byte, count))})
	}
}

// Memory that is put again under the same name, or another one, stays its owner's.
func TestP10_2OneMemoryForAllFiles(t *testing.T) {
	f, want := New(), pairs{}
	b := make([]byte, 100)
	for n := range 32 {
		for i := range b {
			b[i] = byte(n + i)
		}
		put(t, f, numbered(n), b)
		want[numbered(n)] = string(b)
	}
	checkFiles(t, f, want)
}

func TestP10_2R2WhatGetTellsIsNewMemory(t *testing.T) {
	for _, count := range []int{0, 1, 40, 3999, 4000} {
		want := string(some(count, 3))
		f := New()
		put(t, f, "a", some(count, 3))
		put(t, f, "b", some(count, 3))
		first, err := f.Get("a")
		second, err2 := f.Get("a")
		if err != nil || err2 != nil {
			t.Fatal(err, err2)
		}
		// What is appended would be written behind the file, if the answer were a piece of what is kept.
		_ = append(first, 1)
		clear(first[:cap(first)])
		if string(second) != want {
			t.Fatal("two answers of Get share memory")
		}
		checkFiles(t, f, pairs{"a": want, "b": want})
		put(t, f, "a", []byte("other"))
		put(t, f, "b", nil)
		remove(t, f, "a")
		if string(second) != want {
			t.Fatal("what Get told was changed by what was done later")
		}
	}
}

// What was got may be put, and changed then.
func TestP10_2WhatWasGotIsPut(t *testing.T) {
	f := New()
	put(t, f, "a", []byte("abc"))
	b, err := f.Get("a")
	if err != nil {
		t.Fatal(err)
	}
	put(t, f, "b", b)
	put(t, f, "a", b)
	clear(b)
	checkFiles(t, f, pairs{"a": "abc", "b": "abc"})
	put(t, f, "a", b)
	checkFiles(t, f, pairs{"a": "\x00\x00\x00", "b": "abc"})
}

func TestP10_2R2WhatNamesTellsIsNewMemory(t *testing.T) {
	for _, count := range []int{1, 2, 31, 32} {
		f, want := filled(t, count)
		first, second := f.Names(), f.Names()
		_ = append(first, "more")
		clear(first[:cap(first)])
		if !slices.Equal(second, want.rising()) {
			t.Fatal("two answers of Names share memory")
		}
		checkFiles(t, f, want)
		slices.Reverse(second)
		checkFiles(t, f, want)
		third := f.Names()
		remove(t, f, third[0])
		if !slices.Equal(third, want.rising()) {
			t.Fatal("what Names told was changed by a Delete")
		}
		put(t, f, "A", nil)
		if !slices.Equal(third, want.rising()) {
			t.Fatal("what Names told was changed by a Put")
		}
	}
}

func TestP10_2TwoFilesHaveNothingInCommon(t *testing.T) {
	first, second := New(), New()
	if first == nil || first == second {
		t.Fatal("New tells none, or the same ones again")
	}
	b := []byte("one")
	put(t, first, "a", b)
	checkNames(t, second)
	checkNoGet(t, second, "a", api.ErrNone)
	checkNoDelete(t, second, "a", api.ErrNone)
	put(t, second, "a", b)
	put(t, second, "b", b)
	put(t, first, "a", []byte("two"))
	checkFiles(t, first, pairs{"a": "two"})
	checkFiles(t, second, pairs{"a": "one", "b": "one"})
	remove(t, second, "a")
	checkFiles(t, first, pairs{"a": "two"})
	full, want := filled(t, 32)
	put(t, second, "new", nil)
	checkNoPut(t, full, "new", nil, api.ErrTable)
	for _, s := range full.Names() {
		put(t, first, "F"+s[:1], nil)
		remove(t, full, s)
		put(t, full, s, []byte(want[s]))
	}
	checkFiles(t, second, pairs{"b": "one", "new": ""})
	checkFiles(t, full, want)
	checkNames(t, New())
}

// Whatever is put and deleted under other names.
func TestP10_3WhatWasPutLastIsGotTillItIsDeleted(t *testing.T) {
	for _, mine := range []string{"m", "M", "m0", "mm", "abcdefghijklmnop"} {
		f := New()
		put(t, f, mine, []byte("first"))
		put(t, f, mine, []byte("last"))
		for n := range 200 {
			s := numbered(n%60) + "7"
			switch {
			case n%3 == 2:
				f.Delete(s)
			case n%7 == 0:
				f.Put(s, make([]byte, 4001))
			default:
				f.Put(s, some(n, n))
			}
			f.Put(mine, make([]byte, 4001))
			f.Put(mine+"_", nil)
			f.Delete(mine + "_")
			checkGet(t, f, mine, "last")
		}
		for _, s := range f.Names() {
			if s != mine {
				remove(t, f, s)
				checkGet(t, f, mine, "last")
			}
		}
		remove(t, f, mine)
		checkNoGet(t, f, mine, api.ErrNone)
		checkNames(t, f)
		put(t, f, mine, nil)
		checkFiles(t, f, pairs{mine: ""})
	}
}

// plain is the chapter's words: files in the order in which they came.
type plain struct{ list []plainFile }

type plainFile struct{ name, bytes string }

func (p *plain) find(s string) int {
	for i, x := range p.list {
		if x.name == s {
			return i
		}
	}
	return -1
}

func (p *plain) put(s string, b []byte) error {
	i := p.find(s)
	switch {
	case !form.MatchString(s):
		return api.ErrName
	case len(b) >= 4001:
		return api.ErrLarge
	case i < 0 && len(p.list) == 32:
		return api.ErrTable
	case i < 0:
		p.list = append(p.list, plainFile{s, string(b)})
	default:
		p.list[i].bytes = string(b)
	}
	return nil
}

func (p *plain) get(s string) (string, error) {
	if !form.MatchString(s) {
		return "", api.ErrName
	}
	i := p.find(s)
	if i < 0 {
		return "", api.ErrNone
	}
	return p.list[i].bytes, nil
}

func (p *plain) delete(s string) error {
	if _, err := p.get(s); err != nil {
		return err
	}
	i := p.find(s)
	p.list = append(append([]plainFile(nil), p.list[:i]...), p.list[i+1:]...)
	return nil
}

func (p *plain) names() []string {
	var l []string
	for _, x := range p.list {
		i := 0
		for i < len(l) && bytes.Compare([]byte(l[i]), []byte(x.name)) < 0 {
			i++
		}
		l = slices.Insert(l, i, x.name)
	}
	return l
}

func checkSameCode(t *testing.T, got, want error) {
	t.Helper()
	if want == nil {
		if got != nil {
			t.Fatalf("the error is %v, want none", got)
		}
		return
	}
	checkCode(t, got, want.(api.Code))
}

// step is a Put of bytes, or a Delete.
type step struct {
	deletes bool
	name    string
	bytes   []byte
}

func do(t *testing.T, f *Files, p *plain, x step) error {
	t.Helper()
	if x.deletes {
		want := p.delete(x.name)
		checkSameCode(t, f.Delete(x.name), want)
		return want
	}
	want := p.put(x.name, x.bytes)
	checkSameCode(t, f.Put(x.name, x.bytes), want)
	return want
}

// checkSame asks all: the names, and what is got of each of the texts.
func checkSame(t *testing.T, f *Files, p *plain, texts []string) {
	t.Helper()
	checkNames(t, f, p.names()...)
	for _, s := range texts {
		want, wantErr := p.get(s)
		b, err := f.Get(s)
		checkSameCode(t, err, wantErr)
		if string(b) != want {
			t.Fatalf("Get(%q) is %d bytes, want %d", s, len(b), len(want))
		}
	}
}

// All scripts of four of these steps, from no files on, and from 30, 31 and 32.
func TestP10_1EveryShortScript(t *testing.T) {
	steps := []step{{false, "A", []byte("1")}, {false, "A", nil}, {false, "B", []byte("22")}, {true, "A", nil}, {true, "B", nil}, {true, "a", nil}, {false, "b", make([]byte, 4001)}}
	texts := []string{"A", "B", "a", "b", ""}
	for _, count := range []int{0, 30, 31, 32} {
		for script := range len(steps) * len(steps) * len(steps) * len(steps) {
			f, p := New(), &plain{}
			for n := range count {
				do(t, f, p, step{name: numbered(n)})
			}
			for range 4 {
				do(t, f, p, steps[script%len(steps)])
				checkSame(t, f, p, texts)
				script /= len(steps)
			}
		}
	}
}

// anyNames are some 60 texts, most of them names.
func anyNames(r *rand.Rand) []string {
	l := append(slices.Concat(apart()...), "a_", "", "2B", "abcdefghijklmnopq", "é")
	r.Shuffle(len(l), func(i, j int) { l[i], l[j] = l[j], l[i] })
	return l[:60]
}

// anyStep deletes more or less often.
func anyStep(r *rand.Rand, texts []string, deletes int) step {
	s := texts[r.Intn(len(texts))]
	if r.Intn(10) < deletes {
		return step{deletes: true, name: s}
	}
	counts := []int{0, 0, 1, 2, 17, 100, 3999, 4000, 4001, 4002, 6000}
	b := make([]byte, counts[r.Intn(len(counts))])
	r.Read(b)
	return step{name: s, bytes: b}
}

func TestP10_1AnyScripts(t *testing.T) {
	r := rand.New(rand.NewSource(10))
	seen := map[error]int{}
	for script := range 40 {
		f, p := New(), &plain{}
		texts := anyNames(r)
		for range 200 {
			x := anyStep(r, texts, script%6)
			kept := string(x.bytes)
			seen[do(t, f, p, x)]++
			if string(x.bytes) != kept {
				t.Fatal("what was handed in was changed")
			}
			r.Read(x.bytes)
			checkSame(t, f, p, texts)
		}
	}
	for _, code := range []error{nil, api.ErrName, api.ErrLarge, api.ErrTable, api.ErrNone} {
		if seen[code] < 50 {
			t.Errorf("%v was met %d times alone", code, seen[code])
		}
	}
}

// Several Files at once, each with a script of its own.
func TestP10_2AnyScriptsSideBySide(t *testing.T) {
	r := rand.New(rand.NewSource(102))
	texts := anyNames(r)
	var all []*Files
	var plains []*plain
	for range 5 {
		all, plains = append(all, New()), append(plains, &plain{})
	}
	for range 600 {
		n := r.Intn(len(all))
		do(t, all[n], plains[n], anyStep(r, texts, 3))
		for i := range all {
			checkNames(t, all[i], plains[i].names()...)
		}
	}
	for i := range all {
		checkSame(t, all[i], plains[i], texts)
	}
}

func TestP1NoneOfTheCallsPanics(t *testing.T) {
	texts := append(slices.Clone(wrong), "a", "Z9", "abcdefghijklmnop", strings.Repeat("a", 1<<20), strings.Repeat("\xFF", 1<<16), string(make([]byte, 40)))
	lists := [][]byte{nil, {}, make([]byte, 1), make([]byte, 4000), make([]byte, 4001), make([]byte, 1<<20)}
	for _, count := range []int{0, 1, 31, 32} {
		f, _ := filled(t, count)
		for _, s := range texts {
			for _, b := range lists {
				f.Put(s, b)
				f.Get(s)
				f.Names()
				f.Delete(s)
				f.Get(s)
				f.Delete(s)
				f.Names()
			}
		}
	}
	r := rand.New(rand.NewSource(1))
	f := New()
	for range 20000 {
		l := make([]byte, r.Intn(20))
		r.Read(l)
		f.Put(string(l), l)
		f.Get(string(l))
		f.Delete(string(l[:len(l)/2]))
	}
}
