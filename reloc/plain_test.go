package reloc

import (
	"dowel/api"
	"math"
	"math/big"
	"slices"
	"testing"
)

const (
	leastN = -131072
	mostN  = 131071
)

// far are numbers at the edges of an int, far beyond all places, and some whose lowest bits could be a place.
var far = []int{
	math.MinInt, math.MinInt + 1, math.MinInt + 2, math.MinInt + 3, math.MinInt + 4, math.MinInt32, -1<<32 - 4, -1 << 32, -1 << 20,
	1 << 20, 1<<31 - 1, 1 << 31, 1 << 32, 1<<32 + 4, 1<<32 + 412, 1 << 48,
	math.MaxInt - 4, math.MaxInt - 3, math.MaxInt - 2, math.MaxInt - 1, math.MaxInt,
}

// wordOf is the word of any op from 0 to 63, any registers, and an N's lowest 18 bits, whether such an instruction may be or not.
func wordOf(op, a, b, n int) uint32 {
	return uint32(op)<<26 | uint32(a)<<22 | uint32(b)<<18 | uint32(n)&(1<<18-1)
}

func call(a, b, n int) uint32 { return wordOf(api.Call, a, b, n) }

func set(a, b, n int) uint32 { return wordOf(api.Set, a, b, n) }

// notFixed are words that are no instruction, and an instruction of each operation but Call and Set.
func notFixed() []uint32 {
	l := []uint32{0, 7, 0xFFFFFFFF, wordOf(0, 1, 2, 3), wordOf(api.Add, 1, 2, 16), wordOf(api.Shr, 1, 2, -1)}
	for op := 22; op < 64; op++ {
		l = append(l, wordOf(op, 1, 2, 3))
	}
	for op := api.Set; op <= api.Go; op++ {
		if op != api.Set && op != api.Call {
			l = append(l, wordOf(op, 1, 2, 3), wordOf(op, 0, 0, 0))
		}
	}
	return l
}

// plainN is the N that the chapter asks for, in numbers of any size.
func plainN(op, from int, f Fix) *big.Int {
	target := big.NewInt(int64(f.Target))
	if op == api.Set {
		return target
	}
	behind := new(big.Int).Add(big.NewInt(int64(f.At)), big.NewInt(1))
	behind.Mul(behind, big.NewInt(4))
	behind.Add(behind, big.NewInt(int64(from)))
	return target.Quo(target.Sub(target, behind), big.NewInt(4))
}

// plainLink is the chapter's promise: false is ErrForm.
func plainLink(code []uint32, from int, l []Fix) ([]uint32, bool) {
	words := slices.Clone(code)
	for _, f := range l {
		if f.At < 0 || f.At > len(words)-1 {
			return nil, false
		}
		// Each N of these two operations may be, so that the op tells all.
		op := int(words[f.At] >> 26)
		if op != 1 && op != 20 {
			return nil, false
		}
		n := plainN(op, from, f)
		if n.Cmp(big.NewInt(leastN)) < 0 || n.Cmp(big.NewInt(mostN)) > 0 {
			return nil, false
		}
		words[f.At] = words[f.At]>>18<<18 + uint32((n.Int64()+1<<18)%(1<<18))
	}
	return words, true
}

// brief is what is told of a list that may be long.
func brief[E any](l []E) []E { return l[:min(len(l), 12)] }

// checkLink links, and holds what is told against what is wanted.
func checkLink(t *testing.T, code []uint32, from int, l []Fix, want []uint32) {
	t.Helper()
	words, fixes := slices.Clone(code), slices.Clone(l)
	got, err := Link(code, from, l)
	if err != nil || !slices.Equal(got, want) {
		t.Fatalf("Link(%x, %d, %v) = %x, %v, want %x", brief(words), from, brief(fixes), brief(got), err, brief(want))
	}
	if !slices.Equal(code, words) || !slices.Equal(l, fixes) {
		t.Fatalf("Link(%x, %d, %v) changed what was handed in", brief(words), from, brief(fixes))
	}
}

// checkForm links what can't be linked.
func checkForm(t *testing.T, code []uint32, from int, l []Fix) {
	t.Helper()
	words, fixes := slices.Clone(code), slices.Clone(l)
	got, err := Link(code, from, l)
	if len(got) != 0 || err == nil || err != error(api.ErrForm) {
		t.Fatalf("Link(%x, %d, %v) = %x, %v, want none, ErrForm", brief(words), from, brief(fixes), brief(got), err)
	}
	if !slices.Equal(code, words) || !slices.Equal(l, fixes) {
		t.Fatalf("Link(%x, %d, %v) changed what was handed in", brief(words), from, brief(fixes))
	}
}

// checkPlain holds Link against plainLink, and tells whether it was linked.
func checkPlain(t *testing.T, code []uint32, from int, l []Fix) bool {
	t.Helper()
	want, ok := plainLink(code, from, l)
	if ok {
		checkLink(t, code, from, l, want)
	} else {
		checkForm(t, code, from, l)
	}
	return ok
}
