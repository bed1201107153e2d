package chain

import (
	"dowel/api"
	"math/rand"
	"slices"
	"testing"
)

// anyHead is a head in a code of so many words, or just beyond it, or far from it.
func anyHead(r *rand.Rand, count int) int {
	switch r.Intn(8) {
	case 0:
		return far[r.Intn(len(far))]
	case 1:
		return r.Intn(count+6) - 3
	}
	return 1 + r.Intn(count+1)
}

// anyOp is mostly the one that is meant.
func anyOp(r *rand.Rand, op int) int {
	switch r.Intn(10) {
	case 0:
		return r.Intn(70) - 3
	case 1:
		return far[r.Intn(len(far))]
	}
	return op
}

// anyWord is mostly one that may be in a chain of that op.
func anyWord(r *rand.Rand, op, at int) uint32 {
	down := r.Intn(256)
	if r.Intn(8) != 0 {
		down = r.Intn(min(at, 255) + 1)
	}
	w := wordOf(op, r.Intn(16), 0, unsigned(down, r.Intn(16), r.Intn(64)))
	switch r.Intn(40) {
	case 0:
		return r.Uint32()
	case 1:
		return w ^ 1<<r.Intn(32)
	case 2:
		return w ^ uint32(1+r.Intn(15))<<18
	}
	return w
}

func TestP13_1AnyCode(t *testing.T) {
	r := rand.New(rand.NewSource(131))
	told := 0
	for range 40000 {
		op := r.Intn(22)
		code := make([]uint32, r.Intn(280))
		for at := range code {
			code[at] = anyWord(r, op, at)
		}
		for range 6 {
			head, asked := anyHead(r, len(code)), anyOp(r, op)
			checkWalk(t, code, head, asked)
			if refs, ok := walk(code, head, asked); ok && len(refs) > 2 {
				told++
			}
		}
	}
	if told < 1000 {
		t.Fatalf("only %d chains of some length were walked", told)
	}
}

func TestP13_1AnyWords(t *testing.T) {
	r := rand.New(rand.NewSource(132))
	for range 20000 {
		code := make([]uint32, r.Intn(40))
		for at := range code {
			code[at] = r.Uint32()
		}
		for head := -2; head <= len(code)+2; head++ {
			op := r.Intn(64)
			if isAmong(head, 1, len(code)) && r.Intn(4) != 0 {
				op = int(code[head-1] >> 26)
			}
			checkWalk(t, code, head, op)
		}
	}
}

func TestP13_4AnyChainFallsAndIsWalked(t *testing.T) {
	r := rand.New(rand.NewSource(133))
	ops := []int{api.Set, api.More, api.Load, api.Store, api.LoadB, api.StorB, api.Same, api.Other, api.Less, api.Jump, api.Call, api.Go}
	for range 30000 {
		op, most := ops[r.Intn(len(ops))], 1+r.Intn(255)
		places := []int{}
		for at := r.Intn(300); r.Intn(30) != 0 || len(places) == 0; at += 1 + r.Intn(most) {
			places = append(places, at)
		}
		top := places[len(places)-1]
		code := make([]uint32, top+1+r.Intn(3))
		for at := range code {
			code[at] = r.Uint32()
		}
		refs := chainOf(t, code, op, places, func(int) (int, int) { return r.Intn(16), r.Intn(64) })
		checkRefs(t, code, top+1, op, refs)
		got, _ := Walk(code, top+1, op)
		if !slices.IsSortedFunc(got, func(a, b Ref) int { return b.At - a.At }) {
			t.Fatalf("the places of %v don't fall", got)
		}
	}
}

func TestP13_2AnyMark(t *testing.T) {
	r := rand.New(rand.NewSource(134))
	pick := func(low, high int) int {
		switch r.Intn(12) {
		case 0:
			return far[r.Intn(len(far))]
		case 1:
			return low - 1
		case 2:
			return high + 1
		}
		return low + r.Intn(high-low+1)
	}
	for range 400000 {
		i := api.Ins{Op: pick(1, 21), A: pick(0, 15), B: pick(0, 15), N: pick(leastN, mostN)}
		if isThree(i.Op) && r.Intn(3) != 0 {
			i.N = r.Intn(18) - 1
		}
		checkMark(t, i, pick(0, 255), pick(0, 15), pick(0, 63))
	}
}

func TestP1EachCallEnds(t *testing.T) {
	for _, head := range append([]int{0, 1, 2, 300}, far...) {
		for _, op := range append([]int{0, 1, 12, 21, 22, 63}, far...) {
			for _, code := range [][]uint32{nil, {}, {0}, {0xFFFFFFFF}, ladder(300, 1), ladder(300, 255)} {
				checkWalk(t, code, head, op)
			}
			checkMark(t, api.Ins{Op: op, A: head, B: head, N: head}, head, op, head)
			checkMark(t, api.Ins{Op: 1, A: 1, B: 1, N: 1}, head, op, head)
		}
	}
	// The longest walk: a reference at each place.
	checkRefs(t, ladder(3000000, 1), 3000000, api.Load, rungs(2999999, 1))
}
