package chain

import (
	"dowel/api"
	"slices"
	"testing"
)

// counts are numbers of words around the edges of what down can lead over, and beyond what a module may have.
var counts = []int{0, 1, 2, 3, 254, 255, 256, 257, 258, 300, 511, 512, 1000, 70000}

// allOps are all ops that a word has room for.
func allOps() []int {
	ops := make([]int, 64)
	for op := range ops {
		ops[op] = op
	}
	return ops
}

// isThree tells the ops whose N is a register.
func isThree(op int) bool { return isAmong(op, api.Add, api.Shr) }

// ladder is code whose every place leads so far down, but for those at the foot, which are the last ones.
func ladder(count, down int) []uint32 {
	code := make([]uint32, count)
	for at := range code {
		if at >= down {
			code[at] = link(api.Load, down, at%16, at%64)
		} else {
			code[at] = link(api.Load, 0, at%16, at%64)
		}
	}
	return code
}

// rungs are the references of a ladder, from a place on.
func rungs(from, down int) []Ref {
	refs := []Ref{}
	for at := from; at >= 0; at -= down {
		refs = append(refs, Ref{At: at, Mod: at % 16, Ent: at % 64})
	}
	return refs
}

func TestP13_1WordsByHand(t *testing.T) {
	code := []uint32{
		0x30C00001, // Load, A 3, the last one, module 0, 1
		0x04400081, // Set, A 1, the last one, module 2, 1
		0x30C00BFF, // Load, A 3, 2 down, module 15, 63
		0xFFFFFFFF, // none
		0x33C00987, // Load, A 15, 2 down, module 6, 7
		0x30040400, // Load, B 1, 1 down
		0x43FFFFFF, // Same, A 15, B 15
		0x4C3FC000, // Jump, A 0, B 15
		0x4C001C40, // Jump, A 0, 7 down, module 1, 0
	}
	checkRefs(t, code, 0, api.Load, nil)
	checkRefs(t, code, 1, api.Load, []Ref{{0, 0, 1}})
	checkRefs(t, code, 2, api.Set, []Ref{{1, 2, 1}})
	checkRefs(t, code, 3, api.Load, []Ref{{2, 15, 63}, {0, 0, 1}})
	checkRefs(t, code, 5, api.Load, []Ref{{4, 6, 7}, {2, 15, 63}, {0, 0, 1}})
	for _, head := range []int{2, 4, 6, 7, 8, 9, 10} {
		checkForm(t, code, head, api.Load)
	}
	checkForm(t, code, 9, api.Jump)
	code[1] = 0x4C00023F
	checkRefs(t, code, 9, api.Jump, []Ref{{8, 1, 0}, {1, 8, 63}})
}

func TestP13_1TheHighestBitsOfN(t *testing.T) {
	// 255 down, module 15, 63: an instruction has it as -1.
	code := make([]uint32, 256)
	code[255] = 0x5003FFFF | 3<<22
	code[0] = 0x50020000 &^ (1 << 17)
	checkRefs(t, code, 256, api.Call, []Ref{{255, 15, 63}, {0, 0, 0}})
	code[128] = 0x50020000
	checkRefs(t, code, 129, api.Call, []Ref{{128, 0, 0}, {0, 0, 0}})
}

func TestP13_1NoneForHead0(t *testing.T) {
	for _, count := range counts {
		for _, word := range []uint32{0, 0xFFFFFFFF, link(api.Load, 1, 2, 3)} {
			code := slices.Repeat([]uint32{word}, count)
			for op := -1; op <= 64; op++ {
				checkRefs(t, code, 0, op, nil)
			}
			for _, op := range far {
				checkRefs(t, code, 0, op, nil)
			}
		}
	}
	checkRefs(t, nil, 0, api.Set, nil)
	checkRefs(t, []uint32{}, 0, api.Set, nil)
}

func TestP13_1HeadsOfAllKinds(t *testing.T) {
	for _, count := range counts {
		code := slices.Repeat([]uint32{link(api.Store, 0, 5, 44)}, count)
		for _, head := range []int{1, 2, 3, 255, 256, 257, count - 1, count} {
			if head > count || head <= 0 {
				continue
			}
			checkRefs(t, code, head, api.Store, []Ref{{head - 1, 5, 44}})
		}
		for _, beyond := range []int{1, 2, 3, 4, 64, 255, 256, 257, 65536} {
			checkForm(t, code, count+beyond, api.Store)
			checkForm(t, code, -beyond, api.Store)
			checkForm(t, code, -count-beyond, api.Store)
		}
		for _, head := range far {
			if head < 0 || head > count {
				checkForm(t, code, head, api.Store)
			}
		}
	}
	for _, head := range append([]int{1, 2}, far...) {
		checkForm(t, nil, head, api.Store)
		checkForm(t, []uint32{}, head, api.Store)
	}
}

// What lies behind a list's end, in its capacity, isn't in code.
func TestP13_1CodeEndsWhereItsListDoes(t *testing.T) {
	whole := slices.Repeat([]uint32{link(api.Load, 1, 0, 0)}, 8)
	whole[0] = link(api.Load, 0, 0, 0)
	checkForm(t, whole[:4], 5, api.Load)
	checkForm(t, whole[:0], 1, api.Load)
	checkRefs(t, whole[:4], 4, api.Load, []Ref{{3, 0, 0}, {2, 0, 0}, {1, 0, 0}, {0, 0, 0}})
	checkForm(t, whole[1:], 1, api.Load)
	checkForm(t, whole[1:], 7, api.Load)
}

func TestP13_1EachDown(t *testing.T) {
	for _, count := range counts {
		for down := 1; down <= 255; down++ {
			code := ladder(count, down)
			for _, head := range []int{1, 2, down - 1, down, down + 1, 2 * down, 2*down + 1, count - 1, count} {
				if isAmong(head, 1, count) {
					checkRefs(t, code, head, api.Load, rungs(head-1, down))
				}
			}
			checkForm(t, code, count+1, api.Load)
		}
	}
}

func TestP13_1EachDownToPlace0AndBelow(t *testing.T) {
	for from := range 300 {
		for down := 1; down <= 255; down++ {
			code := slices.Repeat([]uint32{link(api.Jump, 0, 1, 9)}, from+1)
			code[from] = link(api.Jump, down, 14, 62)
			if down > from {
				checkForm(t, code, from+1, api.Jump)
				continue
			}
			checkRefs(t, code, from+1, api.Jump, []Ref{{from, 14, 62}, {from - down, 1, 9}})
			code[from-down] = link(api.Jump, from-down+1, 1, 9)
			if from-down+1 <= 255 {
				checkForm(t, code, from+1, api.Jump)
			}
		}
	}
}

func TestP13_1AllPlaces(t *testing.T) {
	for _, count := range counts {
		code := ladder(count, 1)
		for _, head := range []int{1, 2, 255, 256, 257, count} {
			if isAmong(head, 1, count) {
				checkRefs(t, code, head, api.Load, rungs(head-1, 1))
			}
		}
		if count > 0 {
			// The last one of them leads below place 0.
			code[0] = link(api.Load, 1, 0, 0)
			checkForm(t, code, count, api.Load)
			checkForm(t, code, 1, api.Load)
		}
	}
}

// wrongLinks are words that may be in no chain of Load, though what they refer to could be.
func wrongLinks(down int) []uint32 {
	n := unsigned(down, 2, 5)
	wrong := []uint32{}
	for _, op := range allOps() {
		if op != api.Load {
			wrong = append(wrong, wordOf(op, 0, 0, n), wordOf(op, 15, 0, n), wordOf(op, 0, 7, n))
		}
	}
	for b := 1; b <= 15; b++ {
		wrong = append(wrong, wordOf(api.Load, 0, b, n), wordOf(api.Load, 15, b, n))
	}
	return append(wrong, 0, 0xFFFFFFFF)
}

func TestP13_1WrongOnesAnywhereInAChain(t *testing.T) {
	for _, down := range []int{1, 2, 3, 128, 255} {
		for length := 1; length <= 5; length++ {
			code := ladder((length-1)*down+1, down)
			head := len(code)
			for place := range length {
				at := place * down
				right := code[at]
				for _, wrong := range wrongLinks(min(at, down)) {
					code[at] = wrong
					checkForm(t, code, head, api.Load)
					checkWalk(t, code, at+1, int(wrong>>26))
					if place > 0 {
						checkRefs(t, code, at+1-down, api.Load, rungs(at-down, down))
					}
				}
				code[at] = right
				checkRefs(t, code, head, api.Load, rungs(head-1, down))
			}
		}
	}
}

// Words beside a chain are nothing to it, whatever they are.
func TestP13_1WhatLiesBesideAChain(t *testing.T) {
	for _, wrong := range append(wrongLinks(1), link(api.Load, 200, 1, 1)) {
		code := slices.Repeat([]uint32{wrong}, 40)
		code[30], code[21], code[2] = link(api.Load, 9, 0, 8), link(api.Load, 19, 15, 0), link(api.Load, 0, 3, 1)
		checkRefs(t, code, 31, api.Load, []Ref{{30, 0, 8}, {21, 15, 0}, {2, 3, 1}})
	}
}

func TestP13_1EachOp(t *testing.T) {
	for _, op := range allOps() {
		for a := range 16 {
			code := []uint32{wordOf(op, a, 0, 9), wordOf(op, a, 0, unsigned(1, 4, 3)), wordOf(op, a, 1, 9)}
			switch {
			case op < api.Set || op > api.Go:
				checkForm(t, code, 1, op)
				checkForm(t, code, 2, op)
			case isThree(op):
				checkRefs(t, code, 1, op, []Ref{{0, 0, 9}})
				checkForm(t, code, 2, op)
			default:
				checkRefs(t, code, 1, op, []Ref{{0, 0, 9}})
				checkRefs(t, code, 2, op, []Ref{{1, 4, 3}, {0, 0, 9}})
			}
			checkForm(t, code, 3, op)
			for other := -1; other <= 64; other++ {
				if other != op {
					checkForm(t, code, 1, other)
				}
			}
			for _, other := range far {
				checkForm(t, code, 1, other)
				checkForm(t, code, 1, op+other&^63)
			}
		}
	}
}

// The N of Add to Shr is a register: 0 to 15, so that each is a chain's last one.
func TestP13_1OpsOfThreeRegisters(t *testing.T) {
	for op := api.Add; op <= api.Shr; op++ {
		for n := range ns {
			if n > 70 && n%61 != 0 && n < ns-70 {
				continue
			}
			code := []uint32{0, 0, wordOf(op, 2, 0, n)}
			if n <= 15 {
				checkRefs(t, code, 3, op, []Ref{{2, 0, n}})
			} else {
				checkForm(t, code, 3, op)
			}
		}
	}
}

func TestP13_1EachBitOfN(t *testing.T) {
	wants := []Ref{
		{400, 0, 1}, {400, 0, 2}, {400, 0, 4}, {400, 0, 8}, {400, 0, 16}, {400, 0, 32},
		{400, 1, 0}, {400, 2, 0}, {400, 4, 0}, {400, 8, 0},
	}
	for bit := range 18 {
		code := slices.Repeat([]uint32{wordOf(api.LoadB, 0, 0, 0)}, 401)
		code[400] = wordOf(api.LoadB, 0, 0, 1<<bit)
		if bit < 10 {
			checkRefs(t, code, 401, api.LoadB, []Ref{wants[bit]})
			continue
		}
		down := []int{1, 2, 4, 8, 16, 32, 64, 128}[bit-10]
		checkRefs(t, code, 401, api.LoadB, []Ref{{400, 0, 0}, {400 - down, 0, 0}})
	}
	code := slices.Repeat([]uint32{wordOf(api.LoadB, 0, 0, 0)}, 401)
	code[400] = wordOf(api.LoadB, 0, 0, ns-1)
	checkRefs(t, code, 401, api.LoadB, []Ref{{400, 15, 63}, {145, 0, 0}})
}

func TestP13_1EachN(t *testing.T) {
	code := slices.Repeat([]uint32{link(api.StorB, 0, 1, 2)}, 300)
	for n := range ns {
		code[299] = wordOf(api.StorB, 0, 0, n)
		refs, err := Walk(code, 300, api.StorB)
		want := []Ref{{299, n / 64 % 16, n % 64}, {299 - n/1024, 1, 2}}
		if n < 1024 {
			want = want[:1]
		}
		if err != nil || !slices.Equal(refs, want) {
			t.Fatalf("N %d is told as %v, %v, want %v", n, refs, err, want)
		}
	}
}

func TestP13_1EachModAndEnt(t *testing.T) {
	for mod := range 16 {
		for ent := range 64 {
			code := []uint32{link(api.Call, 0, mod, ent), 7, link(api.Call, 2, 15-mod, 63-ent)}
			checkRefs(t, code, 1, api.Call, []Ref{{0, mod, ent}})
			checkRefs(t, code, 3, api.Call, []Ref{{2, 15 - mod, 63 - ent}, {0, mod, ent}})
		}
	}
}

// With ErrForm those that were walked ahead of the fault aren't told.
func TestR3NoReferencesWithErrForm(t *testing.T) {
	code := ladder(256, 1)
	for _, at := range []int{0, 1, 100, 254, 255} {
		right := code[at]
		for _, wrong := range []uint32{0, link(api.Store, 1, 0, 0), wordOf(api.Load, 3, 2, 0)} {
			code[at] = wrong
			refs, err := Walk(code, 256, api.Load)
			if len(refs) != 0 || err == nil {
				t.Fatalf("with a wrong word at %d Walk tells %v, %v", at, refs, err)
			}
		}
		code[at] = right
	}
}

func TestP13_3CodeStays(t *testing.T) {
	for _, wrong := range []bool{false, true} {
		code := ladder(600, 7)
		if wrong {
			code[1] = 0
		}
		before := slices.Clone(code)
		for head := -2; head <= 602; head++ {
			for _, op := range []int{api.Load, api.Store, 0} {
				checkWalk(t, code, head, op)
			}
		}
		if !slices.Equal(code, before) {
			t.Fatal("Walk changes code")
		}
	}
}

func TestP13_3ReferencesAreNewMemory(t *testing.T) {
	code := ladder(64, 9)
	first, err := Walk(code, 64, api.Load)
	if err != nil {
		t.Fatal(err)
	}
	second, err := Walk(code, 64, api.Load)
	if err != nil {
		t.Fatal(err)
	}
	spoil(first)
	if !slices.Equal(second, rungs(63, 9)) {
		t.Fatalf("references that were told, changed, turn others into %v", second)
	}
	if !slices.Equal(code, ladder(64, 9)) {
		t.Fatal("references that were told, changed, turn code into something else")
	}
	clear(code)
	if !slices.Equal(second, rungs(63, 9)) {
		t.Fatalf("code, changed, turns references that were told into %v", second)
	}
	checkRefs(t, ladder(64, 9), 64, api.Load, rungs(63, 9))
	none, err := Walk(code, 0, api.Load)
	if err != nil {
		t.Fatal(err)
	}
	spoil(none)
	checkRefs(t, code, 0, api.Load, nil)
}

// spoil changes all elements of a list, up to its capacity.
func spoil(refs []Ref) {
	refs = refs[:cap(refs)]
	for i := range refs {
		refs[i] = Ref{At: 99, Mod: 99, Ent: 99}
	}
}

// Nothing is kept: a walk's answer hangs on no walk before it.
func TestP13_3NothingIsKept(t *testing.T) {
	long, short := ladder(256, 1), ladder(3, 2)
	for range 3 {
		checkRefs(t, long, 256, api.Load, rungs(255, 1))
		checkForm(t, short, 4, api.Load)
		checkRefs(t, short, 3, api.Load, rungs(2, 2))
		checkForm(t, short, 3, api.Store)
		checkRefs(t, short, 0, api.Load, nil)
	}
}
