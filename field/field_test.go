package field

import (
	"math"
	"slices"
	"testing"
)

var words = []uint32{
	0, 1, 2, 3, 5, 7, 8, 0x7F, 0x80, 0xF0, 0xFF, 0x100, 0x7FFF, 0x8000, 0xFFFF,
	0x12345678, 0x55555555, 0x7FFFFFFF, 0x80000000, 0x80000001, 0xABCD1234, 0xAAAAAAAA, 0xFFFFFFFE, 0xFFFFFFFF,
}

// numbers are places and widths: all that may be, those just beyond, and those whose sums wrap round.
func numbers() []int {
	l := []int{math.MinInt, math.MinInt + 1, math.MinInt32, -64, -33, -32, 64, 1 << 16, math.MaxInt32, math.MaxInt - 31, math.MaxInt - 1, math.MaxInt}
	for n := -3; n <= 36; n++ {
		l = append(l, n)
	}
	return l
}

// may is worked out by cases, so that nothing of it can wrap round.
func may(at, bits int) bool {
	if bits < 1 || bits > 32 || at < 0 || at > 31 {
		return false
	}
	return at+bits <= 32
}

func bit(w uint32, n int) bool { return w&(1<<n) != 0 }

// getBits is Get, one bit after the other.
func getBits(w uint32, at, bits int) uint32 {
	var v uint32
	if !may(at, bits) {
		return v
	}
	for n := 0; n < bits; n++ {
		if bit(w, at+n) {
			v |= 1 << n
		}
	}
	return v
}

// putBits is Put, one bit after the other.
func putBits(w uint32, at, bits int, v uint32) uint32 {
	if !may(at, bits) {
		return w
	}
	var r uint32
	for n := 0; n < 32; n++ {
		set := bit(w, n)
		if n >= at && n < at+bits {
			set = bit(v, n-at)
		}
		if set {
			r |= 1 << n
		}
	}
	return r
}

// signOf is Sign by what the bits are worth: the topmost one is taken off.
func signOf(v uint32, bits int) int32 {
	if bits < 1 || bits > 32 {
		return 0
	}
	var s int64
	for n := 0; n < bits; n++ {
		if !bit(v, n) {
			continue
		}
		if n == bits-1 {
			s -= 1 << n
		} else {
			s += 1 << n
		}
	}
	return int32(s)
}

func TestP1_1GetCases(t *testing.T) {
	for _, c := range []struct {
		w        uint32
		at, bits int
		want     uint32
	}{
		{240, 4, 4, 15},
		{0xABCD1234, 0, 4, 4}, {0xABCD1234, 16, 8, 0xCD}, {0xABCD1234, 28, 4, 0xA},
		{0xABCD1234, 0, 32, 0xABCD1234}, {0xABCD1234, 1, 31, 0x55E6891A},
		{1, 0, 1, 1}, {2, 0, 1, 0}, {2, 1, 1, 1}, {1 << 31, 31, 1, 1}, {1<<31 - 1, 31, 1, 0},
		{0xFFFFFFFF, 1, 32, 0}, {0xFFFFFFFF, 31, 2, 0}, {0xFFFFFFFF, 32, 1, 0}, {0xFFFFFFFF, 30, 3, 0},
		{0xFFFFFFFF, -1, 1, 0}, {0xFFFFFFFF, -1, 33, 0}, {0xFFFFFFFF, -32, 32, 0},
		{0xFFFFFFFF, 0, 0, 0}, {0xFFFFFFFF, 0, -1, 0}, {0xFFFFFFFF, 32, 0, 0}, {0xFFFFFFFF, 33, -1, 0}, {0xFFFFFFFF, 0, 33, 0},
		{0xFFFFFFFF, math.MaxInt, 1, 0}, {0xFFFFFFFF, math.MaxInt, math.MaxInt, 0}, {0xFFFFFFFF, math.MaxInt, 32, 0},
		{0xFFFFFFFF, math.MinInt, 32, 0}, {0xFFFFFFFF, math.MinInt, math.MinInt, 0}, {0xFFFFFFFF, 1, math.MaxInt, 0}, {0xFFFFFFFF, 0, math.MinInt, 0},
	} {
		if got := Get(c.w, c.at, c.bits); got != c.want {
			t.Errorf("Get(%#x, %d, %d) = %#x, want %#x", c.w, c.at, c.bits, got, c.want)
		}
	}
}

func TestP1_1PutCases(t *testing.T) {
	for _, c := range []struct {
		w        uint32
		at, bits int
		v, want  uint32
	}{
		{0, 4, 4, 15, 240}, {0xFFFF, 4, 4, 0x12, 0xFF2F}, {0xFFFFFFFF, 8, 16, 0, 0xFF0000FF}, {0, 8, 16, 0xFFFFFFFF, 0x00FFFF00},
		{7, 0, 32, 9, 9}, {0xFFFFFFFF, 0, 32, 0, 0}, {0, 0, 32, 0xFFFFFFFF, 0xFFFFFFFF},
		{0, 0, 1, 1, 1}, {0, 31, 1, 1, 1 << 31}, {0xFFFFFFFF, 31, 1, 2, 0x7FFFFFFF}, {0xFFFFFFFF, 0, 1, 2, 0xFFFFFFFE},
		{0, 1, 31, 0xFFFFFFFF, 0xFFFFFFFE},
		{7, 30, 3, 1, 7}, {7, 1, 32, 9, 7}, {7, 32, 1, 1, 7}, {7, -1, 1, 1, 7}, {7, -1, 32, 9, 7},
		{7, 0, 0, 0, 7}, {7, 0, -1, 0, 7}, {7, 0, 33, 0, 7}, {7, 32, 0, 1, 7},
		{7, math.MaxInt, 1, 0, 7}, {7, math.MaxInt, math.MaxInt, 0, 7}, {7, math.MinInt, 1, 0, 7}, {7, 0, math.MaxInt, 0, 7}, {7, 0, math.MinInt, 0, 7},
	} {
		if got := Put(c.w, c.at, c.bits, c.v); got != c.want {
			t.Errorf("Put(%#x, %d, %d, %#x) = %#x, want %#x", c.w, c.at, c.bits, c.v, got, c.want)
		}
	}
}

func TestP1_1SignCases(t *testing.T) {
	for _, c := range []struct {
		v    uint32
		bits int
		want int32
	}{
		{15, 4, -1}, {7, 4, 7}, {8, 4, -8}, {0, 4, 0}, {0x1F, 4, -1}, {0x10, 4, 0}, {0xFFFFFFF7, 4, 7},
		{0, 1, 0}, {1, 1, -1}, {2, 1, 0}, {3, 1, -1},
		{0x3FFFF, 18, -1}, {0x1FFFF, 18, 131071}, {0x20000, 18, -131072},
		{0x40000000, 31, -1 << 30}, {0x3FFFFFFF, 31, 1<<30 - 1},
		{1 << 31, 32, math.MinInt32}, {1<<31 - 1, 32, math.MaxInt32}, {0xFFFFFFFF, 32, -1}, {5, 32, 5},
		{5, 0, 0}, {0xFFFFFFFF, 0, 0}, {5, -1, 0}, {0xFFFFFFFF, 33, 0}, {5, 64, 0}, {5, math.MaxInt, 0}, {5, math.MinInt, 0},
	} {
		if got := Sign(c.v, c.bits); got != c.want {
			t.Errorf("Sign(%#x, %d) = %d, want %d", c.v, c.bits, got, c.want)
		}
	}
}

func TestP1_1GetAndPutBitByBit(t *testing.T) {
	for _, w := range words {
		for _, at := range numbers() {
			for _, bits := range numbers() {
				if got, want := Get(w, at, bits), getBits(w, at, bits); got != want {
					t.Fatalf("Get(%#x, %d, %d) = %#x, want %#x", w, at, bits, got, want)
				}
				for _, v := range words {
					if got, want := Put(w, at, bits, v), putBits(w, at, bits, v); got != want {
						t.Fatalf("Put(%#x, %d, %d, %#x) = %#x, want %#x", w, at, bits, v, got, want)
					}
				}
			}
		}
	}
}

func TestP1_1SignBitByBit(t *testing.T) {
	for _, v := range words {
		for _, bits := range numbers() {
			if got, want := Sign(v, bits), signOf(v, bits); got != want {
				t.Fatalf("Sign(%#x, %d) = %d, want %d", v, bits, got, want)
			}
		}
	}
}

func TestP1_2Word(t *testing.T) {
	for _, c := range []struct {
		b    []byte
		want uint32
	}{
		{nil, 0}, {[]byte{}, 0},
		{[]byte{0xFE}, 0xFE}, {[]byte{1, 2}, 0x0201}, {[]byte{0, 0, 0xFF}, 0xFF0000},
		{[]byte{1, 2, 3, 4}, 0x04030201}, {[]byte{0, 0, 0, 0x80}, 0x80000000}, {[]byte{255, 255, 255, 255}, 0xFFFFFFFF},
		{[]byte{1, 2, 3, 4, 5}, 0x04030201}, {[]byte{0, 0, 0, 0, 0xFF}, 0}, {[]byte{9, 8, 7, 6, 5, 4, 3, 2, 1}, 0x06070809},
	} {
		if got := Word(c.b); got != c.want {
			t.Errorf("Word(%v) = %#x, want %#x", c.b, got, c.want)
		}
	}
}

func TestP1_2WordReadsNothingBehindTheLength(t *testing.T) {
	b := []byte{1, 2, 3, 4, 5}
	for n, want := range []uint32{0, 1, 0x0201, 0x030201, 0x04030201, 0x04030201} {
		if got := Word(b[:n]); got != want {
			t.Errorf("Word(%v) = %#x, want %#x", b[:n], got, want)
		}
	}
}

func TestP1_2WordOfManyBytes(t *testing.T) {
	b := make([]byte, 1<<16)
	for i := range b {
		b[i] = 0xFF
	}
	copy(b, []byte{1, 2, 3, 4})
	if got := Word(b); got != 0x04030201 {
		t.Errorf("Word of many = %#x", got)
	}
}

func TestP1_2Bytes(t *testing.T) {
	for _, c := range []struct {
		w    uint32
		want []byte
	}{
		{0, []byte{0, 0, 0, 0}}, {1, []byte{1, 0, 0, 0}}, {258, []byte{2, 1, 0, 0}}, {0x04030201, []byte{1, 2, 3, 4}},
		{0x80000000, []byte{0, 0, 0, 0x80}}, {0xFFFFFFFF, []byte{255, 255, 255, 255}},
	} {
		if got := Bytes(c.w); !slices.Equal(got, c.want) {
			t.Errorf("Bytes(%#x) = %v, want %v", c.w, got, c.want)
		}
	}
}

func TestP1_2WordOfBytesIsTheWord(t *testing.T) {
	for _, w := range words {
		if got := Word(Bytes(w)); got != w {
			t.Errorf("Word(Bytes(%#x)) = %#x", w, got)
		}
	}
}

func TestR2WordLeavesItsBytes(t *testing.T) {
	b := []byte{1, 2, 3, 4, 5}
	for n := range len(b) + 1 {
		Word(b[:n])
	}
	if !slices.Equal(b, []byte{1, 2, 3, 4, 5}) {
		t.Errorf("Word changed its bytes: %v", b)
	}
}

func TestR2BytesAreNewMemory(t *testing.T) {
	first := Bytes(0x04030201)
	for i := range first {
		first[i] = 99
	}
	second := Bytes(0x04030201)
	if !slices.Equal(second, []byte{1, 2, 3, 4}) {
		t.Errorf("a later answer was changed: %v", second)
	}
	second[0] = 77
	if first[0] != 99 {
		t.Errorf("two answers share memory: %v", first)
	}
}

func TestP1_3WhatWasPutIsGot(t *testing.T) {
	for _, w := range words {
		for _, v := range words {
			for bits := 1; bits <= 32; bits++ {
				for at := 0; at+bits <= 32; at++ {
					want := uint32(uint64(v) % (1 << bits))
					if got := Get(Put(w, at, bits, v), at, bits); got != want {
						t.Fatalf("Get of Put(%#x, %d, %d, %#x) = %#x, want %#x", w, at, bits, v, got, want)
					}
				}
			}
		}
	}
}

func TestP1_3WhatLiesBesideItStays(t *testing.T) {
	for _, w := range words {
		for _, v := range words {
			for bits := 1; bits <= 32; bits++ {
				for at := 0; at+bits <= 32; at++ {
					p := Put(w, at, bits, v)
					behind := at + bits
					if Get(p, 0, at) != Get(w, 0, at) || Get(p, behind, 32-behind) != Get(w, behind, 32-behind) {
						t.Fatalf("Put(%#x, %d, %d, %#x) = %#x changed what lies beside", w, at, bits, v, p)
					}
					if Put(p, at, bits, Get(w, at, bits)) != w {
						t.Fatalf("Put(%#x, %d, %d, %#x) can't be put back", w, at, bits, v)
					}
				}
			}
		}
	}
}

func TestP1NoneOfTheCallsPanics(t *testing.T) {
	for _, at := range numbers() {
		for _, bits := range numbers() {
			Get(0xFFFFFFFF, at, bits)
			Put(0xFFFFFFFF, at, bits, 0xFFFFFFFF)
			Sign(0xFFFFFFFF, bits)
		}
	}
	for n := range 9 {
		Word(make([]byte, n))
	}
	Word(nil)
}
