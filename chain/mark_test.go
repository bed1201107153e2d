package chain

import (
	"dowel/api"
	"dowel/ins"
	"slices"
	"testing"
)

// around are numbers at both ends of what may be, and just beyond, with far ones.
func around(most int) []int {
	return append([]int{-1, 0, 1, 2, most / 2, most - 1, most, most + 1, most + 2, 2*most + 1, 2*most + 2}, far...)
}

func TestP13_2ByHand(t *testing.T) {
	for _, c := range []struct {
		i              api.Ins
		down, mod, ent int
		want           api.Ins
	}{
		{api.Ins{Op: api.Load, A: 3}, 0, 0, 0, api.Ins{Op: api.Load, A: 3}},
		{api.Ins{Op: api.Load, A: 3, B: 9, N: -77}, 0, 0, 1, api.Ins{Op: api.Load, A: 3, B: 9, N: 1}},
		{api.Ins{Op: api.Call, A: 15}, 0, 1, 0, api.Ins{Op: api.Call, A: 15, N: 64}},
		{api.Ins{Op: api.Call, A: 15}, 1, 0, 0, api.Ins{Op: api.Call, A: 15, N: 1024}},
		{api.Ins{Op: api.Jump}, 5, 2, 7, api.Ins{Op: api.Jump, N: 5255}},
		{api.Ins{Op: api.Jump}, 127, 15, 63, api.Ins{Op: api.Jump, N: 131071}},
		{api.Ins{Op: api.Jump}, 128, 0, 0, api.Ins{Op: api.Jump, N: -131072}},
		{api.Ins{Op: api.Jump}, 254, 0, 0, api.Ins{Op: api.Jump, N: -2048}},
		{api.Ins{Op: api.Jump}, 255, 0, 0, api.Ins{Op: api.Jump, N: -1024}},
		{api.Ins{Op: api.Jump}, 255, 15, 63, api.Ins{Op: api.Jump, N: -1}},
		{api.Ins{Op: api.Set, A: 1, N: 131071}, 0, 15, 59, api.Ins{Op: api.Set, A: 1, N: 1019}},
		{api.Ins{Op: api.Add, A: 1, B: 2, N: 3}, 0, 0, 15, api.Ins{Op: api.Add, A: 1, B: 2, N: 15}},
	} {
		got, err := Mark(c.i, c.down, c.mod, c.ent)
		if got != c.want || err != nil {
			t.Errorf("Mark(%+v, %d, %d, %d) = %+v, %v, want %+v", c.i, c.down, c.mod, c.ent, got, err, c.want)
		}
	}
}

func TestP13_2EdgesOfDownModEnt(t *testing.T) {
	for _, i := range []api.Ins{{Op: api.Load, A: 3}, {Op: api.Set, A: 15, B: 15, N: leastN}, {Op: api.Add}, {}, {Op: 22}, {Op: api.Load, N: mostN + 1}} {
		for _, down := range around(255) {
			for _, mod := range around(15) {
				for _, ent := range around(63) {
					checkMark(t, i, down, mod, ent)
				}
			}
		}
	}
}

func TestP13_2EachDownModEnt(t *testing.T) {
	for down := -3; down <= 260; down++ {
		for mod := -2; mod <= 18; mod++ {
			for ent := -2; ent <= 66; ent++ {
				checkMark(t, api.Ins{Op: api.Go, A: 7, B: 3, N: -5}, down, mod, ent)
			}
		}
	}
}

// someNs are N around the edges of both kinds.
func someNs() []int {
	return append([]int{leastN - 2, leastN - 1, leastN, leastN + 1, -1024, -3, 1, 2, 14, 15, 16, 17, 63, 64, 1023, 1024, mostN - 1, mostN, mostN + 1, mostN + 2, 0}, far...)
}

func TestP13_2EachInstruction(t *testing.T) {
	registers := append([]int{0, 1, 7, 14, 15, 16, 17, 31, 32}, far...)
	ops := far
	for op := -2; op <= 65; op++ {
		ops = append(slices.Clone(ops), op)
	}
	for _, op := range ops {
		for _, a := range registers {
			for b := -2; b <= 18; b++ {
				for _, n := range someNs() {
					i := api.Ins{Op: op, A: a, B: b, N: n}
					checkMark(t, i, 0, 0, 9)
					checkMark(t, i, 129, 15, 60)
				}
			}
		}
	}
	for _, op := range []int{api.Set, api.Add, api.Load, api.Go} {
		for _, b := range registers {
			checkMark(t, api.Ins{Op: op, A: 1, B: b, N: 2}, 3, 4, 5)
		}
	}
}

func TestP13_2EachN(t *testing.T) {
	for _, op := range []int{api.Set, api.Shr, api.More, api.Go} {
		for n := leastN - 3; n <= mostN+3; n++ {
			checkMark(t, api.Ins{Op: op, A: 4, B: 5, N: n}, 77, 6, 41)
		}
	}
}

// What is marked again has just its last mark; of Add to Shr one that N has no register for makes it none.
func TestP13_2MarkedAgain(t *testing.T) {
	for op := api.Set; op <= api.Go; op++ {
		for _, first := range [][3]int{{0, 0, 0}, {0, 0, 15}, {0, 0, 16}, {1, 0, 0}, {128, 0, 0}, {255, 15, 63}, {0, 8, 0}} {
			for _, second := range [][3]int{{0, 0, 0}, {2, 3, 4}, {255, 15, 63}, {0, 0, 7}} {
				i, err := Mark(api.Ins{Op: op, A: 9, B: 2, N: 6}, first[0], first[1], first[2])
				if err != nil {
					t.Fatalf("op %d isn't marked: %v", op, err)
				}
				checkMark(t, i, second[0], second[1], second[2])
				again, err := Mark(i, second[0], second[1], second[2])
				if isThree(op) && unsigned(first[0], first[1], first[2]) > 15 {
					if err == nil || again != (api.Ins{}) {
						t.Fatalf("%+v is marked as %+v, %v", i, again, err)
					}
					continue
				}
				want := api.Ins{Op: op, A: 9, B: 2, N: signed(unsigned(second[0], second[1], second[2]))}
				if again != want || err != nil {
					t.Fatalf("%+v, marked again, is %+v, %v, want %+v", i, again, err, want)
				}
			}
		}
	}
}

func TestR3NoInstructionWithErrArg(t *testing.T) {
	right := api.Ins{Op: api.Load, A: 3, B: 4, N: 5}
	for _, c := range []struct {
		i              api.Ins
		down, mod, ent int
	}{
		{right, -1, 1, 1}, {right, 256, 1, 1}, {right, 1, -1, 1}, {right, 1, 16, 1}, {right, 1, 1, -1}, {right, 1, 1, 64}, {right, -1, -1, -1},
		{api.Ins{A: 3, B: 4, N: 5}, 1, 1, 1}, {api.Ins{Op: 22, A: 3}, 1, 1, 1}, {api.Ins{Op: api.Load, A: 16}, 1, 1, 1},
		{api.Ins{Op: api.Load, B: 16}, 1, 1, 1}, {api.Ins{Op: api.Load, N: mostN + 1}, 1, 1, 1}, {api.Ins{Op: api.Add, N: 16}, 1, 1, 1}, {api.Ins{Op: api.Add, N: -1}, 1, 1, 1},
	} {
		got, err := Mark(c.i, c.down, c.mod, c.ent)
		if got != (api.Ins{}) || err == nil || err != error(api.ErrArg) {
			t.Errorf("Mark(%+v, %d, %d, %d) = %+v, %v, want a zero one, ErrArg", c.i, c.down, c.mod, c.ent, got, err)
		}
	}
}

// chainOf marks instructions at these places, from the lowest on, in code of other words, and tells what is referred to.
func chainOf(t *testing.T, code []uint32, op int, places []int, refers func(at int) (mod, ent int)) []Ref {
	t.Helper()
	refs := []Ref{}
	for k, at := range places {
		down := 0
		if k > 0 {
			down = at - places[k-1]
		}
		mod, ent := refers(at)
		i, err := Mark(api.Ins{Op: op, A: at % 16, N: at % 16}, down, mod, ent)
		if err != nil {
			t.Fatal(err)
		}
		if code[at], err = ins.Put(i); err != nil {
			t.Fatal(err)
		}
		refs = append(refs, Ref{At: at, Mod: mod, Ent: ent})
	}
	slices.Reverse(refs)
	return refs
}

func TestP13_4WhatWasMarkedIsWalked(t *testing.T) {
	for op := api.Set; op <= api.Go; op++ {
		if isThree(op) {
			continue
		}
		for _, by := range []int{1, 2, 3, 17, 127, 128, 129, 254, 255} {
			for length := 1; length <= 20; length++ {
				for _, from := range []int{0, 1, 5} {
					places := []int{}
					for k := range length {
						places = append(places, from+k*by)
					}
					top := places[length-1]
					code := slices.Repeat([]uint32{0xFFFFFFFF}, top+3)
					refs := chainOf(t, code, op, places, func(at int) (int, int) { return at * 7 % 16, at * 13 % 64 })
					checkRefs(t, code, top+1, op, refs)
					checkForm(t, code, top+2, op)
				}
			}
		}
	}
}
