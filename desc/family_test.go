package desc

import (
	"math/rand"
	"slices"
	"testing"
)

// family is of types that extend one another: each one's line and descriptor.
type family struct {
	lines [][]int
	words [][]uint32
}

// add is one more type, which extends the one of that number, or, below 0, nothing.
func (f *family) add(t *testing.T, size, base, at int) {
	t.Helper()
	var of []int
	if base >= 0 {
		of = f.lines[base]
	}
	line, err := Line(of, at)
	if err != nil {
		t.Fatalf("Line(%v, %d): %v", of, at, err)
	}
	words, err := Words(size, line)
	if err != nil {
		t.Fatalf("Words(%d, %v): %v", size, line, err)
	}
	f.lines = append(f.lines, line)
	f.words = append(f.words, words)
}

// check holds each place against each descriptor.
func (f *family) check(t *testing.T, places []int) {
	t.Helper()
	for i, line := range f.lines {
		own := len(line) - 1
		for _, at := range places {
			checkExtends(t, f.words[i], at, slices.Contains(line[:own], at))
		}
	}
}

func TestP16_4ThreeTypes(t *testing.T) {
	var f family
	f.add(t, 8, -1, 300)
	f.add(t, 12, 0, 316)
	f.add(t, 16, 1, 332)
	f.check(t, []int{300, 316, 332, 8, 12, 16, 0, 1, -1, 348, 1<<32 + 300})
	checkExtends(t, f.words[0], 300, false)
	checkExtends(t, f.words[1], 300, true)
	checkExtends(t, f.words[1], 316, false)
	checkExtends(t, f.words[2], 300, true)
	checkExtends(t, f.words[2], 316, true)
	checkExtends(t, f.words[2], 332, false)
	checkExtends(t, f.words[0], 332, false)
}

// The deepest line that there may be is of MaxAnc that are extended, and of the type itself.
func TestP16_4TheDeepestLine(t *testing.T) {
	var f family
	for i := range 4 {
		f.add(t, 4*i, i-1, 1000-16*i)
	}
	f.check(t, []int{1000, 984, 968, 952, 936, 0, 4, 8, 12})
	checkNoLine(t, f.lines[3], 936)
}

// Types of one base extend it, and not one another.
func TestP16_4TypesOfOneBase(t *testing.T) {
	var f family
	f.add(t, 8, -1, 300)
	f.add(t, 8, 0, 316)
	f.add(t, 8, 0, 332)
	f.add(t, 8, 1, 348)
	f.add(t, 8, -1, 364)
	f.check(t, []int{300, 316, 332, 348, 364})
	checkExtends(t, f.words[2], 316, false)
	checkExtends(t, f.words[3], 332, false)
}

func TestP16_4AnyTypes(t *testing.T) {
	r := rand.New(rand.NewSource(164))
	for range 300 {
		var f family
		places := r.Perm(4096)[:40]
		for i, n := range places {
			places[i] = 1 + n*[]int{1, 16, 1 << 19}[r.Intn(3)]
		}
		slices.Sort(places)
		places = slices.Compact(places)
		r.Shuffle(len(places), func(i, j int) { places[i], places[j] = places[j], places[i] })
		for _, at := range places {
			base := r.Intn(len(f.lines)+1) - 1
			if base >= 0 && len(f.lines[base]) > 3 {
				checkNoLine(t, f.lines[base], at)
				base = -1
			}
			f.add(t, r.Intn(300), base, at)
		}
		f.check(t, places)
	}
}

// anyNumber is small, or far.
func anyNumber(r *rand.Rand) int {
	switch r.Intn(4) {
	case 0:
		return far[r.Intn(len(far))]
	case 1:
		return int(r.Uint64())
	}
	return r.Intn(12)
}

func TestP16_1AnyLines(t *testing.T) {
	r := rand.New(rand.NewSource(161))
	for range 20000 {
		base := make([]int, r.Intn(7))
		for i := range base {
			base[i] = anyNumber(r)
		}
		size, at := anyNumber(r), anyNumber(r)
		if len(base) > 3 {
			checkNoLine(t, base, at)
		} else {
			checkLine(t, base, at, append(slices.Clone(base), at))
		}
		if len(base) < 1 || len(base) > 4 {
			checkNoWords(t, size, base)
		} else {
			checkWords(t, size, base, plainWords(size, base))
		}
	}
}

func TestP16_2AnyWords(t *testing.T) {
	r := rand.New(rand.NewSource(162))
	for range 20000 {
		words := make([]uint32, r.Intn(8))
		for i := range words {
			words[i] = uint32(anyNumber(r))
		}
		for range 4 {
			at := anyNumber(r)
			checkExtends(t, words, at, plainExtends(words, at))
		}
		for _, word := range words {
			checkExtends(t, words, int(word), plainExtends(words, int(word)))
		}
	}
}
