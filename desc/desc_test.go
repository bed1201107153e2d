package desc

import (
	"math"
	"testing"
)

func TestP16_1Example(t *testing.T) {
	checkWords(t, 8, []int{300, 316}, []uint32{8, 300, 0, 0})
}

func TestP16_1LineByHand(t *testing.T) {
	cases := []struct {
		base []int
		at   int
		want []int
	}{
		{nil, 300, []int{300}},
		{[]int{}, 300, []int{300}},
		{[]int{300}, 316, []int{300, 316}},
		{[]int{300, 316}, 332, []int{300, 316, 332}},
		{[]int{300, 316, 332}, 1000, []int{300, 316, 332, 1000}},
		{[]int{1000, 16, 332}, 20, []int{1000, 16, 332, 20}}, // the order is not by places
		{[]int{300, 300}, 300, []int{300, 300, 300}},         // what is there already is told again
		{[]int{0, 0, 0}, 0, []int{0, 0, 0, 0}},
	}
	for _, c := range cases {
		checkLine(t, c.base, c.at, c.want)
	}
}

// A line's places are told whole, not by their lowest bits: these are no words.
func TestP16_1LineOfFarPlaces(t *testing.T) {
	for _, a := range far {
		checkLine(t, nil, a, []int{a})
		for _, b := range far {
			checkLine(t, []int{a}, b, []int{a, b})
			checkLine(t, []int{a, b, -a}, b, []int{a, b, -a, b})
		}
	}
}

func TestP16_1NoLineOfALongBase(t *testing.T) {
	checkLine(t, make([]int, 3), 1, []int{0, 0, 0, 1})
	for _, n := range []int{4, 5, 6, 8, 16, 1000, 1 << 20} {
		for _, at := range []int{0, 300, -1, math.MaxInt} {
			checkNoLine(t, make([]int, n), at)
		}
	}
	checkNoLine(t, []int{300, 316, 332, 348}, 364)
	checkNoLine(t, []int{300, 300, 300, 300}, 300)
}

func TestP16_1WordsByHand(t *testing.T) {
	cases := []struct {
		size int
		line []int
		want []uint32
	}{
		{8, []int{300}, []uint32{8, 0, 0, 0}},
		{12, []int{300, 316}, []uint32{12, 300, 0, 0}},
		{16, []int{300, 316, 332}, []uint32{16, 300, 316, 0}},
		{256, []int{300, 316, 332, 1000}, []uint32{256, 300, 316, 332}},
		{4, []int{1000, 16, 332, 20}, []uint32{4, 1000, 16, 332}}, // the outermost first, wherever it lies
		{0, []int{0}, []uint32{0, 0, 0, 0}},
		{0, []int{300, 316}, []uint32{0, 300, 0, 0}},
		{8, []int{8, 8, 8, 8}, []uint32{8, 8, 8, 8}},
		{8, []int{0, 300, 0, 316}, []uint32{8, 0, 300, 0}},
	}
	for _, c := range cases {
		checkWords(t, c.size, c.line, c.want)
	}
}

func TestP16_1NoWordsOfNoLineAndOfLongOnes(t *testing.T) {
	for _, size := range append([]int{8, 256}, far...) {
		checkNoWords(t, size, nil)
		checkNoWords(t, size, []int{})
		checkNoWords(t, size, []int{300, 316, 332, 348, 364})
		checkNoWords(t, size, []int{0, 0, 0, 0, 0})
		for _, n := range []int{6, 7, 8, 100, 1 << 16} {
			checkNoWords(t, size, make([]int, n))
		}
	}
}

func TestP16_1LowestBitsByHand(t *testing.T) {
	cases := []struct {
		number int
		want   uint32
	}{
		{math.MinInt, 0}, {-1, 4294967295}, {0, 0}, {1, 1}, {1 << 31, 2147483648},
		{1<<32 - 1, 4294967295}, {1 << 32, 0}, {1<<32 + 7, 7}, {math.MaxInt, 4294967295},
	}
	for _, c := range cases {
		checkWords(t, c.number, []int{300}, []uint32{c.want, 0, 0, 0})
		checkWords(t, 8, []int{c.number, 300}, []uint32{8, c.want, 0, 0})
		checkWords(t, 8, []int{300, c.number, 316}, []uint32{8, 300, c.want, 0})
		checkWords(t, 8, []int{300, 316, c.number, 332}, []uint32{8, 300, 316, c.want})
		checkWords(t, c.number, []int{c.number, c.number, c.number, c.number}, []uint32{c.want, c.want, c.want, c.want})
	}
}

// The last place of a line is the type's own, and isn't told.
func TestP16_1TheLastPlaceIsNotTold(t *testing.T) {
	for _, at := range far {
		checkWords(t, 8, []int{at}, []uint32{8, 0, 0, 0})
		checkWords(t, 8, []int{300, at}, []uint32{8, 300, 0, 0})
		checkWords(t, 8, []int{300, 316, at}, []uint32{8, 300, 316, 0})
		checkWords(t, 8, []int{300, 316, 332, at}, []uint32{8, 300, 316, 332})
	}
}

// Behind the places there are zeros, whatever lies behind the line's end within its room.
func TestP16_1ZerosBehindThePlaces(t *testing.T) {
	room := []int{300, 316, 332, 348, 364, 380}
	for n, want := range [][]uint32{{8, 0, 0, 0}, {8, 300, 0, 0}, {8, 300, 316, 0}, {8, 300, 316, 332}} {
		checkWords(t, 8, room[:n+1], want)
	}
	checkNoWords(t, 8, room[:0])
	checkNoWords(t, 8, room[:5])
}

func TestP16_1FarSizesAndPlaces(t *testing.T) {
	for _, size := range far {
		for _, a := range far {
			for _, b := range far {
				for _, line := range [][]int{{a}, {a, b}, {b, a, b}, {a, 300, b, a}} {
					checkWords(t, size, line, plainWords(size, line))
				}
			}
		}
	}
}
