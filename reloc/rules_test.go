package reloc

import (
	"dowel/api"
	"math"
	"slices"
	"testing"
)

// fill changes all that a list has room for.
func fill[E any](l []E, with E) {
	l = l[:cap(l)]
	for i := range l {
		l[i] = with
	}
}

// What is handed in stays, also behind its end within its room, and where the answer is ErrForm.
func TestP17_2WhatIsHandedInStays(t *testing.T) {
	code := slices.Repeat([]uint32{call(15, 0, 64), set(15, 0, 64)}, 10)
	fixes := []Fix{{0, 412}, {1, 300}, {3, 77}, {2, 400}, {9, 1 << 30}, {0, 500}}
	words, before := slices.Clone(code), slices.Clone(fixes)
	for n := range len(code) + 1 {
		for m := range len(fixes) + 1 {
			Link(code[:n], 400, fixes[:m])
			Link(code[:n], math.MinInt, fixes[:m])
			if !slices.Equal(code, words) || !slices.Equal(fixes, before) {
				t.Fatalf("with %d words and %d fixes code became %x, fixes %v", n, m, code, fixes)
			}
		}
	}
}

func TestP17_2WhatIsToldIsNewMemory(t *testing.T) {
	for _, fixes := range [][]Fix{nil, {}, {{0, 412}}, {{0, 412}, {1, 300}, {0, 400}}} {
		code := slices.Grow(five(), 20)
		want, ok := plainLink(five(), 400, fixes)
		if !ok {
			t.Fatalf("the fixes %v are wrong", fixes)
		}
		first, _ := Link(code, 400, fixes)
		second, _ := Link(code, 400, fixes)
		before := slices.Clone(fixes)
		fill(first, 7)
		if !slices.Equal(code, five()) || !slices.Equal(fixes, before) || !slices.Equal(second, want) {
			t.Fatalf("with what was told code became %x, fixes %v, other words %x", code, fixes, second)
		}
		if room := code[:cap(code)]; slices.ContainsFunc(room[5:], func(w uint32) bool { return w != 0 }) {
			t.Fatalf("behind the code there is %x", room)
		}
		checkLink(t, code, 400, fixes, want)
		fill(code, 9)
		fill(fixes, Fix{1, 1})
		if !slices.Equal(second, want) {
			t.Fatalf("with what was handed in words became %x, want %x", second, want)
		}
	}
}

// Code of no words, but with room, isn't told again either.
func TestP17_2NoWordsAreNewMemory(t *testing.T) {
	room := five()
	told, err := Link(room[:0], 400, nil)
	if len(told) != 0 || err != nil {
		t.Fatalf("of no words: %x, %v", told, err)
	}
	_ = append(told, 1, 2, 3)
	fill(told, 4)
	if !slices.Equal(room, five()) {
		t.Fatalf("with what was told code became %x", room)
	}
}

// Nothing is kept: the same is told again, whatever was asked between.
func TestR2NothingIsKept(t *testing.T) {
	for range 3 {
		checkLink(t, []uint32{call(15, 0, 0)}, 400, []Fix{{0, 412}}, []uint32{call(15, 0, 2)})
		checkLink(t, []uint32{call(15, 0, 0)}, 404, []Fix{{0, 412}}, []uint32{call(15, 0, 1)})
		checkForm(t, []uint32{call(15, 0, 0)}, 400, []Fix{{0, 416}, {1, 412}})
		checkLink(t, []uint32{call(15, 0, 0)}, 400, nil, []uint32{call(15, 0, 0)})
		checkLink(t, []uint32{set(15, 0, 0)}, 400, []Fix{{0, 412}}, []uint32{set(15, 0, 412)})
		checkForm(t, nil, 400, []Fix{{0, 412}})
		checkLink(t, nil, 400, nil, nil)
	}
}

// With an error there are no words, not even those of the fixes ahead of the wrong one.
func TestR3ZeroWithAnError(t *testing.T) {
	for _, f := range wrong() {
		for _, fixes := range [][]Fix{{f}, {{0, 412}, f}, {f, {0, 412}}, {{0, 412}, {1, 300}, {3, 400}, {4, 412}, f}} {
			if words, err := Link(five(), 400, fixes); words != nil || err == nil || err != error(api.ErrForm) {
				t.Fatalf("Link with %v = %x, %v", fixes, words, err)
			}
		}
	}
}

// None panics, whatever the numbers and the words are.
func TestP1FarNumbers(t *testing.T) {
	codes := [][]uint32{nil, {}, {0}, {0xFFFFFFFF}, {call(15, 0, 0)}, {set(15, 0, 0)}, five(), notFixed()}
	numbers := append([]int{-2, -1, 0, 1, 2, 4, 5, 400}, far...)
	for _, code := range codes {
		for _, from := range numbers {
			for _, at := range numbers {
				for _, target := range numbers {
					checkPlain(t, code, from, []Fix{{at, target}})
				}
			}
		}
	}
}

// Long code, and long lists, are no reason to take long.
func TestP1LongLists(t *testing.T) {
	const many = 1 << 20
	code, want, fixes := make([]uint32, many), make([]uint32, many), make([]Fix, many)
	for at := range code {
		code[at], want[at] = call(15, 0, 0), call(15, 0, 2)
		fixes[at] = Fix{at, 412 + 4*at}
	}
	checkLink(t, code, 400, fixes, want)
	checkLink(t, code, 400, nil, code)
	checkForm(t, code, 400, append(fixes, Fix{many, 412}))
	checkForm(t, code, 400, append(fixes, Fix{many - 1, 412}))
	checkLink(t, []uint32{set(1, 0, 0)}, 400, slices.Repeat([]Fix{{0, 9}}, many), []uint32{set(1, 0, 9)})
}
