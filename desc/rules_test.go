package desc

import (
	"math"
	"slices"
	"testing"
)

// What is handed in stays, also behind its end within its room.
func TestP16_3WhatIsHandedInStays(t *testing.T) {
	room := []int{300, 316, 332, 348, 364, 380}
	for n := range 7 {
		Line(room[:n], 1000)
		Words(8, room[:n])
	}
	if !slices.Equal(room, []int{300, 316, 332, 348, 364, 380}) {
		t.Errorf("places became %v", room)
	}
	words := []uint32{8, 300, 316, 332, 348}
	for n := range 6 {
		for _, at := range []int{0, 8, 300, 348, -1} {
			Extends(words[:n], at)
		}
	}
	if !slices.Equal(words, []uint32{8, 300, 316, 332, 348}) {
		t.Errorf("words became %v", words)
	}
}

// fill changes all that a list has room for.
func fill[E any](l []E, with E) {
	l = l[:cap(l)]
	for i := range l {
		l[i] = with
	}
}

func TestP16_3ALineIsNewMemory(t *testing.T) {
	base := slices.Grow([]int{300, 316}, 8)
	line, _ := Line(base, 332)
	other, _ := Line(base, 348)
	fill(line, 7)
	checkLine(t, base, 332, []int{300, 316, 332})
	if !slices.Equal(base, []int{300, 316}) || !slices.Equal(other, []int{300, 316, 348}) {
		t.Errorf("with a line its base became %v, another line %v", base, other)
	}
	if room := base[:cap(base)]; slices.ContainsFunc(room[2:], func(n int) bool { return n != 0 }) {
		t.Errorf("behind the base there is %v", room)
	}
	fill(base, 9)
	if !slices.Equal(other, []int{300, 316, 348}) {
		t.Errorf("with its base a line became %v", other)
	}
}

// Two that extend one type don't share its line.
func TestP16_3LinesOfOneBaseAreApart(t *testing.T) {
	base, _ := Line(nil, 300)
	first, _ := Line(base, 316)
	second, _ := Line(base, 332)
	first[0], second[1] = 1, 2
	if !slices.Equal(base, []int{300}) || !slices.Equal(first, []int{1, 316}) || !slices.Equal(second, []int{300, 2}) {
		t.Errorf("they are %v, %v, %v", base, first, second)
	}
	_ = append(base, 5)
	third, _ := Line(base, 348)
	_ = append(base, 6)
	if !slices.Equal(third, []int{300, 348}) {
		t.Errorf("the third is %v", third)
	}
}

func TestP16_3WordsAreNewMemory(t *testing.T) {
	line := []int{300, 316, 332}
	words, _ := Words(8, line)
	other, _ := Words(8, line)
	fill(words, 7)
	checkWords(t, 8, line, []uint32{8, 300, 316, 0})
	fill(line, 9)
	if !slices.Equal(other, []uint32{8, 300, 316, 0}) {
		t.Errorf("other words became %v", other)
	}
	checkWords(t, 8, line, []uint32{8, 9, 9, 0})
}

// Nothing is kept: the same is told again, whatever was asked between.
func TestR2NothingIsKept(t *testing.T) {
	for range 3 {
		checkLine(t, []int{300}, 316, []int{300, 316})
		checkNoLine(t, []int{1, 2, 3, 4}, 5)
		checkWords(t, 8, []int{300, 316}, []uint32{8, 300, 0, 0})
		checkNoWords(t, 8, nil)
		checkWords(t, 4, []int{300}, []uint32{4, 0, 0, 0})
		checkExtends(t, []uint32{8, 300}, 300, true)
		checkExtends(t, []uint32{8, 316}, 300, false)
	}
}

func TestR3ZeroWithAnError(t *testing.T) {
	for n := 4; n < 20; n++ {
		if line, err := Line(make([]int, n), 300); err == nil || line != nil {
			t.Errorf("Line of a base of %d = %v, %v", n, line, err)
		}
	}
	for _, n := range []int{0, 5, 6, 7, 8, 20} {
		if words, err := Words(8, make([]int, n)); err == nil || words != nil {
			t.Errorf("Words of a line of %d = %v, %v", n, words, err)
		}
	}
}

// None panics, whatever the numbers are, and however many there are.
func TestP1FarNumbersAndLongLists(t *testing.T) {
	for n := range 10 {
		for _, number := range far {
			places := slices.Repeat([]int{number}, n)
			Line(places, number)
			Words(number, places)
			Extends(slices.Repeat([]uint32{uint32(number)}, n), number)
		}
	}
	const many = 1 << 20
	checkNoLine(t, make([]int, many), math.MinInt)
	checkNoWords(t, math.MaxInt, make([]int, many))
	words := make([]uint32, many)
	checkExtends(t, words, 300, false)
	words[many-1] = 300
	checkExtends(t, words, 300, true)
}
