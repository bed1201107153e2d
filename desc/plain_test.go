package desc

import (
	"dowel/api"
	"math"
	"slices"
	"testing"
)

// far are numbers at the edges of what a word can tell, and far beyond them.
var far = []int{
	math.MinInt, math.MinInt + 1, math.MinInt32, -1 << 32, -300, -2, -1, 0, 1, 2,
	1<<31 - 1, 1 << 31, 1<<31 + 1, 1<<32 - 1, 1 << 32, 1<<32 + 1, 1<<32 + 7, 1<<32 + 300, 1 << 48, math.MaxInt - 1, math.MaxInt,
}

// lowest is the rest of a number by 2^32, never below 0.
func lowest(n int) uint32 { return uint32((n%(1<<32) + 1<<32) % (1 << 32)) }

// plainWords is a descriptor, place by place as the chapter tells it, of a line of 1 to 4.
func plainWords(size int, line []int) []uint32 {
	words := []uint32{lowest(size)}
	for i, at := range line {
		if i < len(line)-1 {
			words = append(words, lowest(at))
		}
	}
	for len(words) < 4 {
		words = append(words, 0)
	}
	return words
}

// plainExtends looks for a place from the last word to the first one but one.
func plainExtends(words []uint32, at int) bool {
	for i := len(words) - 1; i > 0; i-- {
		if at > 0 && uint64(at) == uint64(words[i]) {
			return true
		}
	}
	return false
}

// checkLine asks for a line.
func checkLine(t *testing.T, base []int, at int, want []int) {
	t.Helper()
	before := slices.Clone(base)
	line, err := Line(base, at)
	if err != nil || !slices.Equal(line, want) {
		t.Fatalf("Line(%v, %d) = %v, %v, want %v", base, at, line, err, want)
	}
	if !slices.Equal(base, before) {
		t.Fatalf("Line(%v, %d) changed its base, which was %v", base, at, before)
	}
}

// checkNoLine asks for a line that there isn't.
func checkNoLine(t *testing.T, base []int, at int) {
	t.Helper()
	if line, err := Line(base, at); len(line) != 0 || err != api.ErrForm {
		t.Fatalf("Line of a base of %d places = %v, %v, want none, ErrForm", len(base), line, err)
	}
}

// checkWords asks for a descriptor.
func checkWords(t *testing.T, size int, line []int, want []uint32) {
	t.Helper()
	before := slices.Clone(line)
	words, err := Words(size, line)
	if err != nil || !slices.Equal(words, want) {
		t.Fatalf("Words(%d, %v) = %v, %v, want %v", size, line, words, err, want)
	}
	if !slices.Equal(line, before) {
		t.Fatalf("Words(%d, %v) changed its line, which was %v", size, line, before)
	}
}

// checkNoWords asks for a descriptor that there isn't.
func checkNoWords(t *testing.T, size int, line []int) {
	t.Helper()
	if words, err := Words(size, line); len(words) != 0 || err != api.ErrForm {
		t.Fatalf("Words of a line of %d places = %v, %v, want none, ErrForm", len(line), words, err)
	}
}

// checkExtends asks whether a type extends one at a place.
func checkExtends(t *testing.T, words []uint32, at int, want bool) {
	t.Helper()
	before := slices.Clone(words)
	if got := Extends(words, at); got != want {
		t.Fatalf("Extends(%v, %d) = %v, want %v", words, at, got, want)
	}
	if !slices.Equal(words, before) {
		t.Fatalf("Extends(%v, %d) changed its words, which were %v", words, at, before)
	}
}
