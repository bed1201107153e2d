package desc

import (
	"math"
	"testing"
)

func TestP16_2ByHand(t *testing.T) {
	words := []uint32{8, 300, 316, 332}
	for _, at := range []int{300, 316, 332} {
		checkExtends(t, words, at, true)
	}
	for _, at := range []int{8, 0, 1, -1, 299, 301, 331, 333, 348, -300, -316, 300 + 316, 1 << 20} {
		checkExtends(t, words, at, false)
	}
	words = []uint32{8, 300, 0, 0}
	checkExtends(t, words, 300, true)
	for _, at := range []int{0, 1, 8, 316} {
		checkExtends(t, words, at, false)
	}
}

// The first word is a size, and no place.
func TestP16_2TheFirstWordIsNoPlace(t *testing.T) {
	for _, first := range []uint32{0, 1, 8, 300, 1 << 31, 1<<32 - 1} {
		checkExtends(t, []uint32{first}, int(first), false)
		checkExtends(t, []uint32{first, 0, 0, 0}, int(first), false)
		checkExtends(t, []uint32{first, 77, 78, 79}, int(first), false)
		checkExtends(t, []uint32{first, 77, first, 79}, int(first), first > 0)
	}
}

// No place is below 1, though zeros stand behind the places, and the greatest words have the bits of numbers below 0.
func TestP16_2FalseBelow1(t *testing.T) {
	words := []uint32{0, 0, 1<<32 - 1, 1 << 31, 1<<32 - 300, 1}
	for _, at := range []int{math.MinInt, math.MinInt + 1, math.MinInt32, -1 << 32, -1<<32 + 1, -300, -2, -1, 0} {
		checkExtends(t, words, at, false)
	}
	for _, at := range []int{1<<32 - 1, 1 << 31, 1<<32 - 300, 1} {
		checkExtends(t, words, at, true)
	}
}

// A place beyond 32 bits is in no word, whatever its lowest bits are.
func TestP16_2PlacesBeyond32Bits(t *testing.T) {
	words := []uint32{8, 0, 300, 7, 1<<32 - 1, 1}
	for _, at := range []int{1 << 32, 1<<32 + 1, 1<<32 + 7, 1<<32 + 300, 1<<33 - 1, 1 << 48, 1<<62 + 300, math.MaxInt} {
		checkExtends(t, words, at, false)
	}
	for _, at := range []int{300, 7, 1<<32 - 1, 1} {
		checkExtends(t, words, at, true)
	}
}

func TestP16_2SoManyWords(t *testing.T) {
	for _, at := range append([]int{8, 300}, far...) {
		checkExtends(t, nil, at, false)
		checkExtends(t, []uint32{}, at, false)
		checkExtends(t, []uint32{8}, at, false)
		checkExtends(t, []uint32{300}, at, false)
	}
	checkExtends(t, []uint32{8, 300}, 300, true)
	checkExtends(t, []uint32{8, 300}, 8, false)
	checkExtends(t, []uint32{8, 0}, 0, false)
	for n := 2; n < 40; n++ {
		for met := range n {
			words := make([]uint32, n)
			words[met] = 300
			checkExtends(t, words, 300, met > 0)
			checkExtends(t, words, 316, false)
			checkExtends(t, words, 0, false)
		}
	}
}

// Where a word stands, and how often, is all the same, but for the first one.
func TestP16_2SeveralOfAWord(t *testing.T) {
	for mask := range 1 << 6 {
		words := make([]uint32, 6)
		for i := range words {
			words[i] = uint32(16 * i)
			if mask&(1<<i) != 0 {
				words[i] = 300
			}
		}
		checkExtends(t, words, 300, mask > 1)
	}
}

// What lies behind the end of the words, within their room, is none of them.
func TestP16_2RoomIsNotRead(t *testing.T) {
	words := []uint32{8, 300, 316, 332}
	for n := range 5 {
		checkExtends(t, words[:n], 300, n > 1)
		checkExtends(t, words[:n], 316, n > 2)
		checkExtends(t, words[:n], 332, n > 3)
	}
	checkExtends(t, words[1:], 300, false)
	checkExtends(t, words[1:], 316, true)
}

func TestP16_2FarPlaces(t *testing.T) {
	for _, word := range []uint32{0, 1, 7, 300, 1 << 31, 1<<32 - 2, 1<<32 - 1} {
		for _, words := range [][]uint32{{8, word}, {word, 316, 332}, {8, 316, word, word}, {word, word, word, word, word}} {
			for _, at := range append([]int{7, 300, 316}, far...) {
				checkExtends(t, words, at, plainExtends(words, at))
			}
		}
	}
}
