package heap

import (
	"dowel/api"
	"errors"
	"math"
	"slices"
	"testing"
)

// made is a heap of a range that may be.
func made(t *testing.T, from, to int) *Heap {
	t.Helper()
	h, err := New(from, to)
	if h == nil || err != nil {
		t.Fatalf("New(%d, %d) = %v, %v, want a heap", from, to, h, err)
	}
	return h
}

// holed is a heap in which just these holes are free: all is taken at once, and they are given back one by one.
func holed(t *testing.T, from, to int, holes ...Hole) *Heap {
	t.Helper()
	h := made(t, from, to)
	take(t, h, to-from, from)
	for _, x := range holes {
		give(t, h, x.At, x.Size)
	}
	checkHoles(t, h, holes...)
	return h
}

func take(t *testing.T, h *Heap, size, want int) {
	t.Helper()
	if at, err := h.Take(size); at != want || err != nil {
		t.Fatalf("Take(%d) = %d, %v, want %d", size, at, err, want)
	}
}

func give(t *testing.T, h *Heap, at, size int) {
	t.Helper()
	if err := h.Give(at, size); err != nil {
		t.Fatalf("Give(%d, %d): %v", at, size, err)
	}
}

func checkHoles(t *testing.T, h *Heap, want ...Hole) {
	t.Helper()
	if got := h.Holes(); !slices.Equal(got, want) {
		t.Fatalf("Holes() = %v, want %v", got, want)
	}
}

// checkCode asks for the Code itself, not for something that holds it.
func checkCode(t *testing.T, err error, want api.Code) {
	t.Helper()
	if code, itself := err.(api.Code); !itself || code != want {
		t.Fatalf("the error is %v, want %v itself", err, want)
	}
	if !errors.Is(err, want) {
		t.Fatalf("errors.Is does not find %v", want)
	}
}

// checkNoTake asks for the error, for 0, and that the holes are as they were.
func checkNoTake(t *testing.T, h *Heap, size int, want api.Code) {
	t.Helper()
	ahead := h.Holes()
	at, err := h.Take(size)
	if at != 0 || err == nil {
		t.Fatalf("Take(%d) = %d, %v, want 0, %v", size, at, err, want)
	}
	checkCode(t, err, want)
	checkHoles(t, h, ahead...)
}

func checkNoGive(t *testing.T, h *Heap, at, size int) {
	t.Helper()
	ahead := h.Holes()
	err := h.Give(at, size)
	if err == nil {
		t.Fatalf("Give(%d, %d) was done, holes %v", at, size, ahead)
	}
	checkCode(t, err, api.ErrArg)
	checkHoles(t, h, ahead...)
}

// wild are numbers that are neither places nor sizes, some of which seem so when their highest bits are lost.
func wild() []int {
	l := []int{math.MinInt32, -1 << 32, -1<<32 + 8, -65540, -65536, -4, -1, 65537, 65540, 65544, 1 << 17, math.MaxInt32 - 3, math.MaxInt32, 1 << 32, 1<<32 + 4, 1<<32 + 8, 1<<32 + 65536}
	for n := range 9 {
		l = append(l, math.MinInt+n, math.MaxInt-n)
	}
	return l
}

func checkNoHeap(t *testing.T, from, to int) {
	t.Helper()
	h, err := New(from, to)
	if h != nil || err == nil {
		t.Fatalf("New(%d, %d) = %v, %v, want ErrArg", from, to, h, err)
	}
	checkCode(t, err, api.ErrArg)
}

func TestP5_1AllIsOneHoleAtFirst(t *testing.T) {
	for _, c := range []struct{ from, to int }{{0, 4}, {0, 40}, {4, 8}, {272, 1024}, {272, 65536}, {0, 65536}, {65532, 65536}, {0, 65532}} {
		checkHoles(t, made(t, c.from, c.to), Hole{c.from, c.to - c.from})
	}
	for at := 0; at < 65536; at += 4 {
		checkHoles(t, made(t, at, 65536), Hole{at, 65536 - at})
		checkHoles(t, made(t, 0, at+4), Hole{0, at + 4})
	}
}

func TestP5_1AnEmptyHeapHasNoHole(t *testing.T) {
	for at := 0; at <= 65536; at += 4 {
		checkHoles(t, made(t, at, at))
	}
	for _, at := range []int{0, 272, 65536} {
		h := made(t, at, at)
		for _, size := range []int{1, 4, 65536} {
			checkNoTake(t, h, size, api.ErrMemory)
			checkNoGive(t, h, at, size)
		}
		checkNoTake(t, h, 0, api.ErrArg)
	}
}

func TestP5_1R3RangesThatMayNotBe(t *testing.T) {
	for _, c := range []struct{ from, to int }{
		{-4, 40}, {-1, 40}, {-8, -4}, {-4, 0}, {-4, -4}, {-65536, 0}, {0, -4}, {40, -4},
		{0, 65540}, {0, 65537}, {65540, 65540}, {65540, 65544}, {65540, 65536}, {272, 131072},
		{1, 40}, {2, 40}, {3, 40}, {0, 1}, {0, 2}, {0, 3}, {0, 39}, {0, 41}, {5, 5}, {1, 1}, {0, 65535}, {65535, 65536}, {2, 6},
		{4, 0}, {40, 36}, {65536, 0}, {65536, 65532}, {276, 272},
	} {
		checkNoHeap(t, c.from, c.to)
	}
}

func TestP5_1WildRanges(t *testing.T) {
	for _, x := range wild() {
		for _, y := range []int{0, 4, 272, 65536} {
			checkNoHeap(t, x, y)
			checkNoHeap(t, y, x)
		}
		for _, y := range wild() {
			checkNoHeap(t, x, y)
		}
	}
}

// All pairs around both limits, against the chapter's words one by one.
func TestP5_1EveryPairAroundTheLimits(t *testing.T) {
	var edges []int
	for n := -9; n <= 9; n++ {
		edges = append(edges, n, 65536+n)
	}
	for _, from := range edges {
		for _, to := range edges {
			multiples := from&3 == 0 && to&3 == 0
			inside := from >= 0 && to >= 0 && from <= 65536 && to <= 65536
			if multiples && inside && from <= to {
				made(t, from, to)
			} else {
				checkNoHeap(t, from, to)
			}
		}
	}
}

func TestP5_1Example(t *testing.T) {
	h := made(t, 0, 40)
	take(t, h, 8, 0)
	take(t, h, 5, 8)
	give(t, h, 0, 8)
	take(t, h, 9, 16)
	checkHoles(t, h, Hole{0, 8}, Hole{28, 12})
}

func TestP5_1SizesAreRoundedUp(t *testing.T) {
	for size := 1; size <= 65536; size++ {
		h := made(t, 0, 65536)
		take(t, h, size, 0)
		rounded := size
		for rounded&3 != 0 {
			rounded++
		}
		if rounded == 65536 {
			checkHoles(t, h)
		} else {
			checkHoles(t, h, Hole{rounded, 65536 - rounded})
		}
		give(t, h, 0, size)
		checkHoles(t, h, Hole{0, 65536})
	}
}

func TestP5_1R3SizesThatMayNotBeTaken(t *testing.T) {
	full := made(t, 0, 65536)
	take(t, full, 65536, 0)
	heaps := []*Heap{made(t, 0, 65536), made(t, 0, 0), made(t, 272, 1024), holed(t, 0, 40, Hole{8, 8}, Hole{32, 4}), full}
	for _, h := range heaps {
		for _, size := range []int{0, -1, -3, -4, -8, -65536, 65537, 65538, 65540, 65541} {
			checkNoTake(t, h, size, api.ErrArg)
		}
		for _, size := range wild() {
			checkNoTake(t, h, size, api.ErrArg)
		}
	}
}

func TestP5_1SizesAtTheLimits(t *testing.T) {
	take(t, made(t, 0, 65536), 65536, 0)
	take(t, made(t, 65532, 65536), 1, 65532)
	checkNoTake(t, made(t, 4, 65536), 65536, api.ErrMemory)
	checkNoTake(t, made(t, 4, 65536), 65533, api.ErrMemory)
	take(t, made(t, 4, 65536), 65532, 4)
	h := made(t, 0, 65536)
	take(t, h, 1, 0)
	checkNoTake(t, h, 65536, api.ErrMemory)
	checkNoTake(t, h, 65533, api.ErrMemory)
	take(t, h, 65529, 4)
	checkHoles(t, h)
	checkNoTake(t, h, 1, api.ErrMemory)
}

func TestP5_1AHoleIsUsedUp(t *testing.T) {
	for _, size := range []int{5, 6, 7, 8} {
		h := holed(t, 0, 40, Hole{4, 4}, Hole{12, 8}, Hole{28, 12})
		take(t, h, size, 12)
		checkHoles(t, h, Hole{4, 4}, Hole{28, 12})
	}
	h := holed(t, 0, 40, Hole{4, 4}, Hole{12, 8}, Hole{28, 12})
	take(t, h, 12, 28)
	take(t, h, 4, 4)
	take(t, h, 8, 12)
	checkHoles(t, h)
	checkNoTake(t, h, 1, api.ErrMemory)
}

func TestP5_1AHoleThatIsTooSmallByAWord(t *testing.T) {
	h := holed(t, 0, 40, Hole{0, 8}, Hole{12, 12}, Hole{28, 8})
	take(t, h, 12, 12)
	checkHoles(t, h, Hole{0, 8}, Hole{28, 8})
	for _, size := range []int{9, 10, 11, 12, 13, 16, 40, 65536} {
		checkNoTake(t, h, size, api.ErrMemory)
	}
	take(t, h, 8, 0)
	take(t, h, 8, 28)
}

// The first that is great enough, not the one that fits best, nor the greatest, nor the last.
func TestP5_1TheFirstHoleThatIsGreatEnough(t *testing.T) {
	holes := []Hole{{0, 4}, {8, 12}, {24, 8}, {36, 32}, {72, 12}}
	for _, c := range []struct {
		size, at int
		want     []Hole
	}{
		{1, 0, []Hole{{8, 12}, {24, 8}, {36, 32}, {72, 12}}},
		{4, 0, []Hole{{8, 12}, {24, 8}, {36, 32}, {72, 12}}},
		{5, 8, []Hole{{0, 4}, {16, 4}, {24, 8}, {36, 32}, {72, 12}}},
		{8, 8, []Hole{{0, 4}, {16, 4}, {24, 8}, {36, 32}, {72, 12}}},
		{12, 8, []Hole{{0, 4}, {24, 8}, {36, 32}, {72, 12}}},
		{13, 36, []Hole{{0, 4}, {8, 12}, {24, 8}, {52, 16}, {72, 12}}},
		{32, 36, []Hole{{0, 4}, {8, 12}, {24, 8}, {72, 12}}},
	} {
		h := holed(t, 0, 84, holes...)
		take(t, h, c.size, c.at)
		checkHoles(t, h, c.want...)
	}
	checkNoTake(t, holed(t, 0, 84, holes...), 33, api.ErrMemory)
}

// A block that is taken out of a hole is its beginning, wherever the heap begins.
func TestP5_1BlocksLieOneBehindTheOther(t *testing.T) {
	for _, from := range []int{0, 4, 272, 65496} {
		h := made(t, from, from+40)
		take(t, h, 8, from)
		take(t, h, 5, from+8)
		take(t, h, 1, from+16)
		checkHoles(t, h, Hole{from + 20, 20})
		checkNoTake(t, h, 21, api.ErrMemory)
		take(t, h, 20, from+20)
		checkHoles(t, h)
	}
}

func TestP5_1GiveAtPlacesThatMayNotBe(t *testing.T) {
	for _, h := range []*Heap{holed(t, 16, 56), holed(t, 16, 56, Hole{24, 8})} {
		for _, at := range []int{17, 18, 19, 21, 33, 53, 54, 55, 57, 15, 1, -1, -2, -3} {
			checkNoGive(t, h, at, 1)
			checkNoGive(t, h, at, 4)
		}
		for _, at := range []int{12, 8, 0, -4, -16, 56, 60, 64, 65532, 65536, 65540} {
			checkNoGive(t, h, at, 1)
			checkNoGive(t, h, at, 4)
			checkNoGive(t, h, at, 8)
		}
		for _, at := range wild() {
			for _, size := range []int{1, 4, 40, 65532, 65536} {
				checkNoGive(t, h, at, size)
			}
		}
	}
}

func TestP5_1GiveOfSizesThatMayNotBe(t *testing.T) {
	for _, h := range []*Heap{holed(t, 0, 65536), holed(t, 16, 56), made(t, 0, 0)} {
		for _, at := range []int{0, 16, 36, 52, 56, 65536, math.MaxInt - 3, math.MinInt} {
			for _, size := range []int{0, -1, -4, -40, -65536, 65537, 65538, 65540} {
				checkNoGive(t, h, at, size)
			}
			for _, size := range wild() {
				checkNoGive(t, h, at, size)
			}
		}
	}
}

func TestP5_1GiveBeyondTheHeap(t *testing.T) {
	h := holed(t, 16, 56)
	for _, c := range []struct{ at, size int }{{16, 41}, {16, 44}, {16, 65536}, {52, 5}, {52, 6}, {52, 7}, {52, 8}, {36, 21}, {36, 24}, {12, 8}, {12, 44}, {12, 48}, {0, 56}, {0, 65536}, {8, 4}, {8, 8}} {
		checkNoGive(t, h, c.at, c.size)
	}
	checkNoGive(t, holed(t, 0, 65536), 65532, 5)
	checkNoGive(t, holed(t, 0, 65536), 4, 65536)
	checkNoGive(t, holed(t, 0, 65536), 4, 65533)
	for _, size := range []int{1, 2, 3, 4} {
		h := holed(t, 16, 56)
		give(t, h, 52, size)
		checkHoles(t, h, Hole{52, 4})
		give(t, h, 16, size)
		checkHoles(t, h, Hole{16, 4}, Hole{52, 4})
	}
	give(t, h, 16, 37)
	checkHoles(t, h, Hole{16, 40})
	most := holed(t, 0, 65536)
	give(t, most, 0, 65536)
	checkHoles(t, most, Hole{0, 65536})
}

func TestP5_1GiveOfWhatIsFreeInPart(t *testing.T) {
	h := holed(t, 0, 80, Hole{16, 16}, Hole{48, 16})
	for _, c := range []struct{ at, size int }{
		{16, 16}, {48, 16}, {16, 4}, {28, 4}, {20, 8}, {16, 1}, {60, 1}, // free already
		{28, 8}, {28, 20}, {16, 20}, {24, 16}, {60, 8}, {48, 20}, {60, 20}, // free at the beginning
		{8, 12}, {12, 8}, {0, 20}, {0, 17}, {12, 5}, {44, 8}, {32, 20}, {32, 17}, // free at the end
		{12, 24}, {0, 36}, {0, 48}, {32, 48}, {44, 24}, {0, 80}, {28, 24}, {16, 48}, // free in the midst, or at both ends
	} {
		checkNoGive(t, h, c.at, c.size)
	}
	whole := made(t, 0, 80)
	for at := 0; at < 80; at += 4 {
		for size := 1; size <= 80-at; size++ {
			checkNoGive(t, whole, at, size)
		}
	}
}

func TestP5_1GiveTwice(t *testing.T) {
	h := made(t, 0, 40)
	take(t, h, 8, 0)
	take(t, h, 8, 8)
	take(t, h, 24, 16)
	give(t, h, 8, 8)
	checkNoGive(t, h, 8, 8)
	give(t, h, 0, 8)
	checkNoGive(t, h, 0, 8)
	checkNoGive(t, h, 8, 8)
	checkNoGive(t, h, 0, 16)
	checkHoles(t, h, Hole{0, 16})
}

func TestP5_1WhatIsGivenBackJoinsHolesThatTouchIt(t *testing.T) {
	holes := []Hole{{8, 8}, {32, 8}, {56, 8}}
	for _, c := range []struct {
		at, size int
		want     []Hole
	}{
		{16, 16, []Hole{{8, 32}, {56, 8}}}, {40, 16, []Hole{{8, 8}, {32, 32}}}, {40, 13, []Hole{{8, 8}, {32, 32}}}, // both sides
		{16, 12, []Hole{{8, 20}, {32, 8}, {56, 8}}}, {40, 4, []Hole{{8, 8}, {32, 12}, {56, 8}}}, {40, 1, []Hole{{8, 8}, {32, 12}, {56, 8}}}, // the hole ahead alone
		{64, 8, []Hole{{8, 8}, {32, 8}, {56, 16}}}, {64, 16, []Hole{{8, 8}, {32, 8}, {56, 24}}}, // likewise, behind the last hole
		{20, 12, []Hole{{8, 8}, {20, 20}, {56, 8}}}, {52, 4, []Hole{{8, 8}, {32, 8}, {52, 12}}}, {20, 9, []Hole{{8, 8}, {20, 20}, {56, 8}}}, // the hole behind alone
		{0, 8, []Hole{{0, 16}, {32, 8}, {56, 8}}}, {4, 4, []Hole{{4, 12}, {32, 8}, {56, 8}}}, // likewise, ahead of the first hole
		{20, 8, []Hole{{8, 8}, {20, 8}, {32, 8}, {56, 8}}}, {0, 4, []Hole{{0, 4}, {8, 8}, {32, 8}, {56, 8}}}, // none
		{44, 8, []Hole{{8, 8}, {32, 8}, {44, 8}, {56, 8}}}, {68, 12, []Hole{{8, 8}, {32, 8}, {56, 8}, {68, 12}}}, {68, 1, []Hole{{8, 8}, {32, 8}, {56, 8}, {68, 4}}},
	} {
		h := holed(t, 0, 80, holes...)
		give(t, h, c.at, c.size)
		checkHoles(t, h, c.want...)
	}
}

// What is given back needn't be what was taken at once: a piece of a block, or several of them.
func TestP5_1GiveOfPiecesAndOfSeveral(t *testing.T) {
	h := made(t, 0, 40)
	take(t, h, 16, 0)
	take(t, h, 8, 16)
	take(t, h, 16, 24)
	give(t, h, 4, 4)
	checkHoles(t, h, Hole{4, 4})
	give(t, h, 12, 20)
	checkHoles(t, h, Hole{4, 4}, Hole{12, 20})
	give(t, h, 8, 4)
	checkHoles(t, h, Hole{4, 28})
	take(t, h, 28, 4)
	give(t, h, 0, 40)
	checkHoles(t, h, Hole{0, 40})
}

func TestP5_2R2HolesAreNewMemory(t *testing.T) {
	holes := []Hole{{8, 8}, {32, 8}, {56, 8}}
	h := holed(t, 0, 80, holes...)
	first, second := h.Holes(), h.Holes()
	// What is appended would be written behind the last hole, if the answer were a piece of the heap's own list.
	_ = append(first, Hole{1, 1})
	clear(first[:cap(first)])
	if !slices.Equal(second, holes) {
		t.Error("two answers of Holes share memory")
	}
	checkHoles(t, h, holes...)
	take(t, h, 4, 8)
	give(t, h, 40, 16)
	give(t, h, 0, 4)
	if !slices.Equal(second, holes) {
		t.Error("what Holes told was changed by what was done later")
	}
	checkHoles(t, h, Hole{0, 4}, Hole{12, 4}, Hole{32, 32})
}

func TestP5_2HeapsAreApart(t *testing.T) {
	first, second := made(t, 0, 40), made(t, 0, 40)
	take(t, first, 8, 0)
	checkHoles(t, second, Hole{0, 40})
	take(t, second, 40, 0)
	checkHoles(t, first, Hole{8, 32})
	give(t, first, 0, 8)
	checkHoles(t, second)
}

// orders are all orders of the numbers below count.
func orders(count int) [][]int {
	if count == 0 {
		return [][]int{nil}
	}
	var l [][]int
	for _, o := range orders(count - 1) {
		for i := range count {
			l = append(l, slices.Insert(slices.Clone(o), i, count-1))
		}
	}
	return l
}

// checkGivenBack takes blocks of these sizes and gives them back in that order.
func checkGivenBack(t *testing.T, h *Heap, sizes, order []int) {
	t.Helper()
	ahead := h.Holes()
	places := make([]int, len(sizes))
	for i, size := range sizes {
		at, err := h.Take(size)
		if err != nil {
			t.Fatalf("Take(%d): %v, holes %v", size, err, h.Holes())
		}
		places[i] = at
	}
	for _, i := range order {
		give(t, h, places[i], sizes[i])
	}
	checkHoles(t, h, ahead...)
}

func TestP5_3GivenBackInEveryOrder(t *testing.T) {
	sizes := []int{5, 1, 12, 8, 3, 16}
	for _, order := range orders(len(sizes)) {
		checkGivenBack(t, made(t, 0, 52), sizes, order)
		checkGivenBack(t, made(t, 272, 1024), sizes, order)
		checkGivenBack(t, holed(t, 0, 100, Hole{4, 16}, Hole{24, 4}, Hole{36, 20}, Hole{64, 8}, Hole{76, 24}), sizes, order)
	}
}

// rolled are numbers that look like chance, always the same ones.
type rolled uint64

func (r *rolled) next(below int) int {
	*r = *r*6364136223846793005 + 1442695040888963407
	return int(uint64(*r) >> 33 % uint64(below))
}

// plain is the chapter's heap, byte by byte.
type plain struct {
	from, to int
	free     []bool // by places from 0 on
}

func newPlain(from, to int) *plain {
	p := &plain{from: from, to: to, free: make([]bool, to)}
	p.set(from, to, true)
	return p
}

func (p *plain) set(from, to int, free bool) {
	for at := from; at < to; at++ {
		p.free[at] = free
	}
}

func (p *plain) holes() []Hole {
	var l []Hole
	for at := p.from; at < p.to; at++ {
		if !p.free[at] {
			continue
		}
		if at > p.from && p.free[at-1] {
			l[len(l)-1].Size++
		} else {
			l = append(l, Hole{at, 1})
		}
	}
	return l
}

func (p *plain) take(size int) (int, error) {
	if size < 1 || size > 65536 {
		return 0, api.ErrArg
	}
	size += (4 - size%4) % 4
	for _, x := range p.holes() {
		if x.Size >= size {
			p.set(x.At, x.At+size, false)
			return x.At, nil
		}
	}
	return 0, api.ErrMemory
}

func (p *plain) give(at, size int) error {
	if at&3 != 0 || size < 1 || size > 65536 {
		return api.ErrArg
	}
	size += (4 - size%4) % 4
	for n := at; n < at+size; n++ {
		if n < p.from || n >= p.to || p.free[n] {
			return api.ErrArg
		}
	}
	p.set(at, at+size, true)
	return nil
}

func checkSameCode(t *testing.T, got, want error) {
	t.Helper()
	if want == nil {
		if got != nil {
			t.Fatalf("the error is %v, want none", got)
		}
		return
	}
	checkCode(t, got, want.(api.Code))
}

// Many calls, right and wrong ones, one after the other, each held against the heap byte by byte.
func TestP5_1LongRuns(t *testing.T) {
	for _, c := range []struct{ from, to int }{{0, 4}, {0, 40}, {16, 120}, {272, 1024}} {
		h, p := made(t, c.from, c.to), newPlain(c.from, c.to)
		r := rolled(c.to)
		for range 6000 {
			size := r.next(28) - 2
			if r.next(2) == 0 {
				at, err := h.Take(size)
				wantAt, wantErr := p.take(size)
				if at != wantAt {
					t.Fatalf("Take(%d) = %d, want %d", size, at, wantAt)
				}
				checkSameCode(t, err, wantErr)
			} else {
				at := c.from - 8 + r.next(c.to-c.from+16)
				if r.next(4) != 0 {
					at = at / 4 * 4
				}
				checkSameCode(t, h.Give(at, size), p.give(at, size))
			}
			checkHoles(t, h, p.holes()...)
		}
	}
}

// Every way in which the words of a small heap can be taken, and every block in it and around it.
func TestP5_1GiveOfEveryBlockInEverySmallHeap(t *testing.T) {
	const words = 6
	for taken := range 1 << words {
		for at := 4; at <= 8+4*words+4; at++ {
			for size := 0; size <= 4*words+5; size++ {
				h, p := made(t, 8, 8+4*words), newPlain(8, 8+4*words)
				take(t, h, 4*words, 8)
				p.set(8, 8+4*words, false)
				for n := range words {
					if taken>>n&1 == 0 {
						give(t, h, 8+4*n, 4)
						p.set(8+4*n, 12+4*n, true)
					}
				}
				checkSameCode(t, h.Give(at, size), p.give(at, size))
				checkHoles(t, h, p.holes()...)
			}
		}
	}
}

func TestP5_3LongRuns(t *testing.T) {
	type block struct{ at, size int }
	for _, to := range []int{1024, 65536} {
		h := made(t, 272, to)
		var blocks []block
		r := rolled(to)
		giveOne := func() {
			i := r.next(len(blocks))
			give(t, h, blocks[i].at, blocks[i].size)
			blocks = slices.Delete(blocks, i, i+1)
		}
		for range 20000 {
			size := 1 + r.next(200)
			at, err := h.Take(size)
			if err == nil {
				blocks = append(blocks, block{at, size})
			}
			if len(blocks) > 0 && (err != nil || r.next(2) == 0) {
				giveOne()
			}
		}
		for len(blocks) > 0 {
			giveOne()
		}
		checkHoles(t, h, Hole{272, to - 272})
	}
}

// As many holes as there can be: every second word.
func TestP5_3TheGreatestNumberOfHoles(t *testing.T) {
	h := made(t, 0, 65536)
	for at := 0; at < 65536; at += 4 {
		take(t, h, 4, at)
	}
	checkHoles(t, h)
	var want []Hole
	for at := 0; at < 65536; at += 8 {
		give(t, h, at, 4)
		want = append(want, Hole{at, 4})
	}
	checkHoles(t, h, want...)
	checkNoTake(t, h, 5, api.ErrMemory)
	for at := 65532; at > 0; at -= 8 {
		give(t, h, at, 4)
	}
	checkHoles(t, h, Hole{0, 65536})
}

func TestP1NoneOfTheCallsPanics(t *testing.T) {
	numbers := append(wild(), 0, 1, 3, 4, 5, 8, 272, 1023, 1024, 65532, 65535, 65536)
	for _, h := range []*Heap{made(t, 0, 0), made(t, 0, 65536), made(t, 65536, 65536), holed(t, 272, 1024, Hole{276, 8}, Hole{1020, 4})} {
		for _, x := range numbers {
			h.Take(x)
			h.Holes()
			for _, y := range numbers {
				New(x, y)
				h.Give(x, y)
			}
		}
	}
}
