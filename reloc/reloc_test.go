package reloc

import (
	"dowel/api"
	"math"
	"slices"
	"testing"
)

func TestP17_1Example(t *testing.T) {
	checkLink(t, []uint32{call(0, 0, 0)}, 400, []Fix{{0, 412}}, []uint32{call(0, 0, 2)})
}

// The words of two of these are written out: 0x53C is Call of A 15, 0x04C Set of A 3.
func TestP17_1WordsByHand(t *testing.T) {
	checkLink(t, []uint32{0x53C00000}, 400, []Fix{{0, 412}}, []uint32{0x53C00002})
	checkLink(t, []uint32{0x53C00000}, 400, []Fix{{0, 400}}, []uint32{0x53C3FFFF})
	checkLink(t, []uint32{0x04C00000}, 400, []Fix{{0, 412}}, []uint32{0x04C0019C})
	checkLink(t, []uint32{0x04C00000}, 400, []Fix{{0, -1}}, []uint32{0x04C3FFFF})
}

// A Call, and a Set, each at the first, a middle, and the last place of five words, from 400.
func TestP17_1EachPlaceByHand(t *testing.T) {
	cases := []struct{ at, target, calls int }{
		{0, 404, 0}, {0, 420, 4}, {0, 400, -1}, {0, 272, -33}, {0, 1404, 250},
		{1, 408, 0}, {1, 420, 3}, {1, 400, -2}, {1, 808, 100},
		{2, 412, 0}, {2, 400, -3}, {2, 408, -1}, {2, 416, 1}, {2, 65536, 16281},
		{3, 416, 0}, {3, 412, -1}, {3, 400, -4},
		{4, 420, 0}, {4, 400, -5}, {4, 416, -1}, {4, 424, 1}, {4, 300, -30},
	}
	for _, c := range cases {
		for _, op := range []int{api.Call, api.Set} {
			n := c.calls
			if op == api.Set {
				n = c.target
			}
			code := []uint32{5, 6, 7, 8, 9}
			want := slices.Clone(code)
			code[c.at], want[c.at] = wordOf(op, 15, 0, 64), wordOf(op, 15, 0, n)
			checkLink(t, code, 400, []Fix{{c.at, c.target}}, want)
		}
	}
}

func TestP17_1NoFixes(t *testing.T) {
	codes := [][]uint32{nil, {}, {0}, {0xFFFFFFFF}, {call(15, 0, 64), set(1, 0, 3), 0}, notFixed(), make([]uint32, 1000)}
	for _, code := range codes {
		for _, from := range append([]int{0, 1, 400, -400}, far...) {
			checkLink(t, code, from, nil, code)
			checkLink(t, code, from, []Fix{}, code)
		}
	}
}

func TestP17_1WhereThereIsNoInstruction(t *testing.T) {
	for _, word := range []uint32{call(15, 0, 64), set(15, 0, 64)} {
		for count := range 6 {
			code := slices.Repeat([]uint32{word}, count)
			for at := range count {
				if !checkPlain(t, code, 400, []Fix{{at, 412}}) {
					t.Fatalf("a fix at %d of %d words is refused", at, count)
				}
			}
			for _, at := range append([]int{-2, -1, -count, -count - 1, count, count + 1, 255, 256}, far...) {
				if at != 0 || count == 0 {
					checkForm(t, code, 400, []Fix{{at, 412}})
				}
			}
		}
	}
	checkForm(t, nil, 400, []Fix{{0, 412}})
	checkForm(t, []uint32{}, 400, []Fix{{0, 412}})
}

// What lies behind the end of code, within its room, is no instruction of it.
func TestP17_1RoomIsNoCode(t *testing.T) {
	room := slices.Repeat([]uint32{call(15, 0, 64)}, 6)
	for n := range 6 {
		checkForm(t, room[:n], 400, []Fix{{n, 412}})
		checkForm(t, room[:n], 400, []Fix{{5, 412}})
	}
	checkForm(t, room[1:], 400, []Fix{{5, 412}})
	checkForm(t, room[1:], 400, []Fix{{-1, 412}})
}

func TestP17_1OtherWords(t *testing.T) {
	for _, word := range notFixed() {
		for _, target := range append([]int{0, 1, 3, 15, 400, 404, 412}, far...) {
			checkForm(t, []uint32{word}, 400, []Fix{{0, target}})
			checkForm(t, []uint32{call(1, 0, 0), word, set(1, 0, 0)}, 400, []Fix{{1, target}})
		}
		// Those beside it may be fixed all the same.
		checkLink(t, []uint32{call(1, 0, 0), word, set(1, 0, 0)}, 400, []Fix{{0, 408}, {2, 9}}, []uint32{call(1, 0, 1), word, set(1, 0, 9)})
	}
}

// From 400 the instruction 2 lies at 408, the one behind it at 412.
func TestP17_1WhereTheTargetLies(t *testing.T) {
	cases := []struct{ target, n int }{
		{0, -103}, {16, -99}, {272, -35}, {400, -3}, {404, -2}, {408, -1}, {412, 0}, {416, 1}, {420, 2}, {4412, 1000}, {65532, 16280}, {-4, -104}, {-400, -203},
	}
	for _, c := range cases {
		checkLink(t, []uint32{0, 0, call(15, 0, 9), 0}, 400, []Fix{{2, c.target}}, []uint32{0, 0, call(15, 0, c.n), 0})
		checkLink(t, []uint32{0, 0, set(15, 0, 9), 0}, 400, []Fix{{2, c.target}}, []uint32{0, 0, set(15, 0, c.target), 0})
	}
}

// A fourth is cut off toward 0, ahead and back.
func TestP17_1CutOff(t *testing.T) {
	fourths := []int{-2, -2, -1, -1, -1, -1, 0, 0, 0, 0, 0, 0, 0, 1, 1, 1, 1, 2, 2}
	for i, n := range fourths {
		away := i - 9
		for _, from := range []int{0, 1, 2, 3, 400, 401, -400, -403, 65536} {
			for at := range 3 {
				code, want := make([]uint32, 3), make([]uint32, 3)
				code[at], want[at] = call(4, 5, 99), call(4, 5, n)
				checkLink(t, code, from, []Fix{{at, from + 4*at + 4 + away}}, want)
			}
		}
	}
}

func TestP17_1From(t *testing.T) {
	cases := []struct{ from, target, n int }{
		{0, 4, 0}, {0, 0, -1}, {0, 12, 2}, {0, 400, 99}, {0, -8, -3},
		{401, 413, 2}, {401, 412, 1}, {401, 405, 0}, {401, 404, 0}, {403, 400, -1}, {3, 0, -1}, {3, 15, 2},
		{-400, -396, 0}, {-400, -400, -1}, {-400, 0, 99}, {-4, 0, 0}, {-4, 4, 1}, {-1, 0, 0}, {-1, 7, 1}, {-7, -10, -1},
		{1 << 40, 1<<40 + 12, 2}, {1 << 40, 1<<40 - 4, -2}, {-1 << 40, 12 - 1<<40, 2}, {1<<40 + 3, 1<<40 + 15, 2},
		{math.MaxInt - 12, math.MaxInt, 2}, {math.MinInt, math.MinInt + 12, 2}, {math.MinInt, math.MinInt, -1},
	}
	for _, c := range cases {
		checkLink(t, []uint32{call(15, 0, 0)}, c.from, []Fix{{0, c.target}}, []uint32{call(15, 0, c.n)})
	}
	// To a Set it is all the same.
	for _, from := range append([]int{0, 1, 401, -400}, far...) {
		checkLink(t, []uint32{0, set(15, 0, 0)}, from, []Fix{{1, 412}}, []uint32{0, set(15, 0, 412)})
	}
}

func TestP17_1LeastAndGreatestCall(t *testing.T) {
	for _, from := range []int{0, 1, 400, -400, 1 << 40, math.MinInt + 1<<20, math.MaxInt - 1<<20} {
		for at := range 3 {
			behind := from + 4*at + 4
			code, want := make([]uint32, 3), make([]uint32, 3)
			code[at] = call(15, 0, 0)
			for more := range 4 {
				want[at] = call(15, 0, mostN)
				checkLink(t, code, from, []Fix{{at, behind + 4*mostN + more}}, want)
				want[at] = call(15, 0, leastN)
				checkLink(t, code, from, []Fix{{at, behind + 4*leastN - more}}, want)
				checkForm(t, code, from, []Fix{{at, behind + 4*mostN + 4 + more}})
				checkForm(t, code, from, []Fix{{at, behind + 4*leastN - 4 - more}})
			}
			want[at] = call(15, 0, mostN-1)
			checkLink(t, code, from, []Fix{{at, behind + 4*mostN - 1}}, want)
			want[at] = call(15, 0, leastN+1)
			checkLink(t, code, from, []Fix{{at, behind + 4*leastN + 1}}, want)
		}
	}
}

func TestP17_1LeastAndGreatestSet(t *testing.T) {
	for _, target := range []int{leastN, leastN + 1, -65536, -2, -1, 0, 1, 2, 272, 65535, 65536, mostN - 1, mostN} {
		checkLink(t, []uint32{set(15, 0, 5)}, 400, []Fix{{0, target}}, []uint32{set(15, 0, target)})
	}
	for _, target := range append([]int{leastN - 1, leastN - 2, mostN + 1, mostN + 2, 2 * leastN, 1 << 18, 1<<18 + 5, 1<<19 + 5}, far...) {
		checkForm(t, []uint32{set(15, 0, 5)}, 400, []Fix{{0, target}})
	}
}

// What lies farther away than an int tells is never near.
func TestP17_1LeastAndGreatestInts(t *testing.T) {
	code := []uint32{call(15, 0, 0), 0, call(15, 0, 0)}
	for _, a := range []int{math.MaxInt, math.MaxInt - 1, math.MaxInt - 8, math.MaxInt - 11, math.MaxInt - 12} {
		for _, b := range []int{math.MinInt, math.MinInt + 1, math.MinInt + 7, math.MinInt + 8, math.MinInt + 12} {
			for _, at := range []int{0, 2} {
				checkForm(t, code, a, []Fix{{at, b}})
				checkForm(t, code, b, []Fix{{at, a}})
			}
		}
	}
	for _, edge := range []int{math.MinInt, math.MaxInt} {
		for _, other := range []int{-1, 0, 1, 400, -1 << 62, 1 << 62} {
			checkForm(t, code, edge, []Fix{{0, other}})
			checkForm(t, code, other, []Fix{{2, edge}})
		}
	}
	// Where the instruction behind it lies may be beyond the greatest int.
	checkLink(t, code, math.MaxInt, []Fix{{0, math.MaxInt}, {2, math.MaxInt}}, []uint32{call(15, 0, -1), 0, call(15, 0, -3)})
	checkLink(t, code, math.MaxInt, []Fix{{0, math.MaxInt - 4}, {2, math.MaxInt - 5}}, []uint32{call(15, 0, -2), 0, call(15, 0, -4)})
	checkLink(t, code, math.MinInt, []Fix{{0, math.MinInt}, {2, math.MinInt}}, []uint32{call(15, 0, -1), 0, call(15, 0, -3)})
	checkLink(t, code, math.MaxInt-3, []Fix{{0, math.MaxInt - 3}, {2, math.MaxInt}}, []uint32{call(15, 0, -1), 0, call(15, 0, -2)})
}

func TestP17_1AllFarOnes(t *testing.T) {
	places := append([]int{-8, -4, -1, 0, 1, 4, 400, 412}, far...)
	for _, from := range places {
		for _, target := range places {
			for _, word := range []uint32{call(15, 0, 0), set(15, 0, 0)} {
				for at := range 3 {
					checkPlain(t, []uint32{word, word, word}, from, []Fix{{at, target}})
				}
			}
		}
	}
}

// Registers stay, whichever they are, and whatever N there was is gone.
func TestP17_1RegistersStay(t *testing.T) {
	for a := range 16 {
		for b := range 16 {
			for _, n := range []int{0, 1, -1, 64, leastN, mostN} {
				checkLink(t, []uint32{call(a, b, n), set(a, b, n)}, 400, []Fix{{0, 380}, {1, -7}}, []uint32{call(a, b, -6), set(a, b, -7)})
				checkLink(t, []uint32{call(a, b, n), set(a, b, n)}, 400, []Fix{{0, 424}, {1, 700}}, []uint32{call(a, b, 5), set(a, b, 700)})
			}
		}
	}
}
