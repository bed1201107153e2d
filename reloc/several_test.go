package reloc

import (
	"dowel/api"
	"math"
	"slices"
	"testing"
)

// five are words of which 0 and 3 are Calls, 1 and 4 Sets, and 2 is an instruction that has no fix.
func five() []uint32 {
	return []uint32{call(15, 0, 0), set(1, 0, 0), wordOf(api.Load, 2, 1, 4), call(14, 0, 0), set(3, 0, 0)}
}

func TestP17_1SeveralPlaces(t *testing.T) {
	want := []uint32{call(15, 0, 3), set(1, 0, 300), wordOf(api.Load, 2, 1, 4), call(14, 0, -4), set(3, 0, 412)}
	fixes := []Fix{{0, 416}, {1, 300}, {3, 400}, {4, 412}}
	checkLink(t, five(), 400, fixes, want)
	slices.Reverse(fixes)
	checkLink(t, five(), 400, fixes, want)
	checkLink(t, five(), 400, []Fix{{3, 400}, {0, 416}, {4, 412}, {1, 300}}, want)
	want[1], want[3] = five()[1], five()[3]
	checkLink(t, five(), 400, []Fix{{4, 412}, {0, 416}}, want)
}

// Of fixes of one place the last one stands.
func TestP17_1OnePlaceTwice(t *testing.T) {
	want := five()
	want[0] = call(15, 0, 7)
	checkLink(t, five(), 400, []Fix{{0, 416}, {0, 432}}, want)
	checkLink(t, five(), 400, []Fix{{0, 0}, {0, -400}, {0, 416}, {0, 432}}, want)
	want[1] = set(1, 0, 9)
	checkLink(t, five(), 400, []Fix{{1, 8}, {0, 416}, {1, -8}, {0, 432}, {1, 9}}, want)
	want[1] = set(1, 0, -8)
	checkLink(t, five(), 400, []Fix{{1, 9}, {0, 416}, {0, 432}, {1, -8}}, want)
	checkLink(t, five(), 400, slices.Repeat([]Fix{{1, -8}, {0, 432}}, 500), want)
}

// wrong are fixes of five that can't be.
func wrong() []Fix {
	return []Fix{
		{-1, 412}, {5, 412}, {2, 412}, {math.MinInt, 412}, {math.MaxInt, 412},
		{0, 404 + 4*mostN + 4}, {0, 404 + 4*leastN - 4}, {3, math.MinInt}, {3, math.MaxInt}, {1, mostN + 1}, {4, leastN - 1}, {1, math.MinInt}, {4, math.MaxInt},
	}
}

// A wrong one is an error wherever it stands, and nothing is told of the good ones.
func TestP17_1WrongOnesAmongGoodOnes(t *testing.T) {
	good := []Fix{{0, 416}, {1, 300}, {3, 400}, {4, 412}}
	for _, f := range wrong() {
		for place := range len(good) + 1 {
			checkForm(t, five(), 400, slices.Insert(slices.Clone(good), place, f))
		}
		checkForm(t, five(), 400, []Fix{f})
		checkForm(t, five(), 400, []Fix{f, f})
	}
}

// That a good one of the same place comes behind it, or ahead, doesn't help.
func TestP17_1WrongOnesOfAGoodPlace(t *testing.T) {
	for _, f := range wrong() {
		checkForm(t, five(), 400, []Fix{f, {f.At, 412}})
		checkForm(t, five(), 400, []Fix{{f.At, 412}, f})
	}
}

// What has no fix stays, whatever word it is.
func TestP17_3OtherWordsStay(t *testing.T) {
	rest := append(notFixed(), call(15, 0, 64), call(1, 2, -9), set(1, 0, 64), set(9, 3, leastN))
	for at := 0; at <= len(rest); at += 7 {
		for _, op := range []int{api.Call, api.Set} {
			code := slices.Insert(slices.Clone(rest), at, wordOf(op, 15, 0, 64))
			n := -at - 3
			if op == api.Set {
				n = 392
			}
			want := slices.Insert(slices.Clone(rest), at, wordOf(op, 15, 0, n))
			checkLink(t, code, 400, []Fix{{at, 392}}, want)
		}
	}
}
