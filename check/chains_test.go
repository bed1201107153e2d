package check

import (
	"dowel/api"
	"dowel/chain"
	"slices"
	"strings"
	"testing"
)

// ops are the chains' ops.
var ops = [3]int{api.Call, api.Set, api.Set}

func TestP14_1TheSample(t *testing.T) {
	checkMay(t, sample())
	refs, ok := Refs(sample())
	if !ok || !sameRefs(refs, sampleRefs()) {
		t.Errorf("Refs = %v, %v, want %v", refs, ok, sampleRefs())
	}
	checkMay(t, bare())
	refs, ok = Refs(bare())
	if !ok || len(refs[0])+len(refs[1])+len(refs[2]) != 0 {
		t.Errorf("Refs = %v, %v, want none, true", refs, ok)
	}
}

// The chapter's example.
func TestP14_1NothingIsNoModule(t *testing.T) {
	checkPlain(t, api.Object{})
	if refs, ok := Refs(api.Object{}); ok || Valid(api.Object{}) || len(refs[0])+len(refs[1])+len(refs[2]) != 0 {
		t.Error("an object of nothing is told to be a module")
	}
	o := api.Object{Name: "M"}
	checkBreaks(t, o, 2)
	o = api.Object{Code: []uint32{0}}
	checkBreaks(t, o, 1)
}

func TestP14_1WordsByHand(t *testing.T) {
	o := api.Object{
		Name: "M", Imports: []api.Import{{Name: "A"}}, Types: []api.Type{{Base: -1}}, Data: 1,
		Exports: []api.Export{{Kind: api.Proc}, {Kind: api.Var}, {Kind: api.Rec}},
		Code: []uint32{
			0x53C00040, // Call, A 15, the last one, module 1, 0
			0x04C003C0, // Set, A 3, the last one, module 15, 0
			0x04C00041, // Set, A 3, the last one, module 1, 1
			0x53C00C00, // Call, A 15, 3 down, module 0, 0
			0x04C00C01, // Set, A 3, 3 down, module 0, 1
			0x04C00C02, // Set, A 3, 3 down, module 0, 2
		},
		Fix: [3]int{4, 5, 6},
	}
	checkMay(t, o)
	want := [3][]chain.Ref{{{At: 3}, {Mod: 1}}, {{At: 4, Ent: 1}, {At: 1, Mod: 15}}, {{At: 5, Ent: 2}, {At: 2, Mod: 1, Ent: 1}}}
	if refs, ok := Refs(o); !ok || !sameRefs(refs, want) {
		t.Errorf("Refs = %v, %v, want %v", refs, ok, want)
	}
	o.Fix = [3]int{4, 6, 5}
	checkBreaks(t, o, 7)
	o.Fix = [3]int{1, 2, 3}
	checkMay(t, o)
	o.Fix = [3]int{1, 3, 2}
	checkBreaks(t, o, 7)
	o.Fix = [3]int{1, 2, 2}
	checkBreaks(t, o, 7)
}

func TestP14_1Heads(t *testing.T) {
	for which := range 3 {
		places := []int{0}
		for _, r := range sampleRefs()[which] {
			places = append(places, r.At+1)
		}
		for _, head := range append(rising(-300, 1, 600), far...) {
			o := sample()
			o.Fix[which] = head
			if head < 0 || head > len(o.Code) {
				checkBreaks(t, o, 7)
			} else if slices.Contains(places, head) {
				checkMay(t, o)
			} else {
				checkPlain(t, o)
			}
			// Without the other ones nothing is shared.
			o.Fix = [3]int{}
			o.Fix[which] = head
			checkPlain(t, o)
		}
	}
	for _, words := range []int{1, 2, 255, 256} {
		for which := range 3 {
			for head := -3; head <= words+260; head++ {
				o := long(words)
				o.Imports = []api.Import{{Name: "A"}}
				o.Code = slices.Repeat([]uint32{link(ops[which], 0, 1, 9)}, words)
				o.Fix[which] = head
				checkOne(t, o, isAmong(head, 0, words), 7)
			}
		}
	}
}

// changed calls do with the sample, whose word of one reference is changed, for each of all.
func changed(change func(word uint32) uint32, do func(which, at int, o api.Object)) {
	for which, refs := range sampleRefs() {
		for _, r := range refs {
			o := sample()
			o.Code[r.At] = change(o.Code[r.At])
			do(which, r.At, o)
		}
	}
}

func TestP14_1WordsOfAnotherOp(t *testing.T) {
	for op := range 64 {
		changed(func(word uint32) uint32 { return word&(1<<26-1) | uint32(op)<<26 }, func(which, at int, o api.Object) {
			checkOne(t, o, op == ops[which], 7)
		})
	}
}

func TestP14_1RegistersOfWords(t *testing.T) {
	for b := range uint32(16) {
		changed(func(word uint32) uint32 { return word | b<<18 }, func(which, at int, o api.Object) { checkOne(t, o, b == 0, 7) })
	}
	for a := range uint32(16) {
		changed(func(word uint32) uint32 { return word&^(15<<22) | a<<22 }, func(which, at int, o api.Object) { checkMay(t, o) })
	}
}

func TestP14_1EachDown(t *testing.T) {
	for down := range uint32(256) {
		changed(func(word uint32) uint32 { return word&^(255<<10) | down<<10 }, func(which, at int, o api.Object) {
			if down == 0 {
				checkMay(t, o)
			} else if int(down) > at {
				checkBreaks(t, o, 7)
			} else {
				checkPlain(t, o)
			}
		})
	}
}

// twoChains is a module whose chains of addresses and types have these places, each list falling; both refer to an import.
func twoChains(these, those []int) api.Object {
	o := long(256)
	o.Imports = []api.Import{{Name: "A"}}
	for i, list := range [][]int{these, those} {
		for k, at := range list {
			down := 0
			if k+1 < len(list) {
				down = at - list[k+1]
			}
			o.Code[at] = link(api.Set, down, 1, at%64)
		}
		if len(list) > 0 {
			o.Fix[1+i] = list[0] + 1
		}
	}
	return o
}

func TestP14_1ChainsThatShareNothing(t *testing.T) {
	for _, c := range [][2][]int{
		{{9}, {8}}, {{0}, {255}}, {{9, 7, 5}, {8, 6, 4}}, {{9, 7, 5}, {200, 100, 0}}, {{9, 8, 7}, {6, 5, 4}}, {{9, 0}, {8, 1}}, {{255, 0}, {254}}, {{5}, nil}, {nil, {5}},
	} {
		checkMay(t, twoChains(c[0], c[1]))
		checkMay(t, twoChains(c[1], c[0]))
	}
}

// Chains of one op that meet go on together: so what they share is the end of at least one of them.
func TestP14_1ChainsThatShare(t *testing.T) {
	for _, c := range []struct{ whole, from []int }{
		{[]int{9}, []int{9}},                   // their only place
		{[]int{9, 7, 5}, []int{9}},             // their first one, and all
		{[]int{9, 7, 5}, []int{7}},             // the first one of one, which is between the other's
		{[]int{9, 7, 5}, []int{5}},             // the first one of one, and the other's last
		{[]int{9, 7, 5}, []int{12, 5}},         // their last one
		{[]int{9, 7, 5}, []int{8, 7}},          // from one between on
		{[]int{9, 7, 5}, []int{10, 9}},         // from the first one of one on
		{[]int{9, 7, 5}, []int{11, 10, 8, 5}},  // their last one, behind some of its own
		{[]int{0}, []int{0}},                   // place 0
		{[]int{255}, []int{255}},               // the last place that there may be
		{[]int{255, 0}, []int{128, 0}},         // place 0, from far
		{[]int{255, 254}, []int{254}},          // neighbours
		{[]int{200, 150, 100, 50}, []int{100}}, // from the middle on
	} {
		for _, swapped := range []bool{false, true} {
			o := twoChains(c.from, c.whole)
			o.Fix[1], o.Fix[2] = c.from[0]+1, c.whole[0]+1
			// What they share leads on as the whole one does.
			if swapped {
				o.Fix[1], o.Fix[2] = o.Fix[2], o.Fix[1]
			}
			checkBreaks(t, o, 7)
			alone := o
			alone.Fix[1] = 0
			checkMay(t, alone)
			alone.Fix[1], alone.Fix[2] = o.Fix[1], 0
			checkMay(t, alone)
		}
	}
}

// One chain has all places but one; the other one has that, or any other.
func TestP14_1AllPlacesTaken(t *testing.T) {
	falling := rising(0, 1, 256)
	slices.Reverse(falling)
	checkMay(t, twoChains(falling, nil))
	checkMay(t, twoChains(nil, falling))
	for at := range 256 {
		o := twoChains(slices.Delete(slices.Clone(falling), 255-at, 256-at), []int{at})
		checkMay(t, o)
		for _, elsewhere := range []int{0, 1, 128, 254, 255} {
			o.Fix[2] = elsewhere + 1
			checkOne(t, o, elsewhere == at, 7)
		}
	}
	o := long(256)
	o.Imports = []api.Import{{Name: "A"}}
	for at := range o.Code {
		down := 3
		if at < 3 {
			down = 0
		}
		o.Code[at] = link(ops[at%3], down, 1, at%64)
	}
	o.Fix = [3]int{256, 254, 255}
	checkMay(t, o)
	refs, _ := Refs(o)
	if len(refs[0])+len(refs[1])+len(refs[2]) != 256 {
		t.Errorf("%d, %d, %d references are told", len(refs[0]), len(refs[1]), len(refs[2]))
	}
}

// referring has a chain of three references, of which one refers to what is asked for, the others to the first import.
func referring(which, place, mod, ent int) api.Object {
	o := sample()
	o.Code = slices.Repeat([]uint32{other}, 16)
	o.Code[1], o.Code[3], o.Code[8] = link(ops[which], 0, 1, 60), link(ops[which], 2, 1, 61), link(ops[which], 5, 1, 62)
	at := []int{1, 3, 8}[place]
	o.Code[at] = link(ops[which], at-[]int{1, 1, 3}[place], mod, ent)
	o.Fix = [3]int{}
	o.Fix[which] = 9
	return o
}

func TestP14_1ReferencesByHand(t *testing.T) {
	for _, c := range []struct {
		which, mod, ent int
		may             bool
	}{
		{0, 0, 0, true}, {0, 0, 1, false}, {0, 0, 2, false}, {0, 0, 3, true}, {0, 0, 4, false}, {0, 0, 5, false}, {0, 0, 6, false}, {0, 0, 7, false}, {0, 0, 63, false},
		{1, 0, 0, true}, {1, 0, 1, true}, {1, 0, 2, false}, {1, 0, 3, true}, {1, 0, 4, true}, {1, 0, 5, false}, {1, 0, 6, false}, {1, 0, 7, false}, {1, 0, 63, false},
		{2, 0, 0, false}, {2, 0, 1, false}, {2, 0, 2, true}, {2, 0, 3, false}, {2, 0, 4, false}, {2, 0, 5, true}, {2, 0, 6, true}, {2, 0, 7, false}, {2, 0, 63, false},
		{0, 15, 0, false}, {0, 15, 4, false}, {0, 15, 5, false}, {1, 15, 0, true}, {1, 15, 4, true}, {1, 15, 5, true}, {1, 15, 6, false}, {1, 15, 63, false},
		{2, 15, 0, false}, {2, 15, 4, false}, {2, 15, 5, false},
		{0, 1, 0, true}, {1, 1, 7, true}, {2, 1, 63, true}, {0, 2, 63, true}, {1, 2, 63, true}, {2, 2, 0, true}, {0, 3, 0, false}, {1, 3, 0, false}, {2, 3, 2, false},
		{0, 8, 0, false}, {1, 9, 0, false}, {2, 14, 2, false}, {0, 14, 0, false}, {1, 14, 0, false},
	} {
		for place := range 3 {
			checkOne(t, referring(c.which, place, c.mod, c.ent), c.may, 7)
		}
	}
}

// mayRefer are the chapter's words of what is meant, for exports whose kinds are i % 3.
func mayRefer(which, mod, ent, imports, exports, text int) bool {
	if mod == 0 {
		return ent < exports && (ent%3 == which || which == 1 && ent%3 == 0)
	}
	if mod == 15 {
		return which == 1 && ent <= text
	}
	return mod <= imports
}

func TestP14_1EachReference(t *testing.T) {
	for _, c := range [][3]int{{8, 64, 60}, {8, 63, 59}, {1, 1, 1}, {1, 2, 0}, {2, 3, 7}, {7, 0, 0}, {3, 62, 58}} {
		imports, exports, text := c[0], c[1], c[2]
		for which := range 3 {
			for mod := range 16 {
				for ent := range 64 {
					o := referring(which, ent%3, mod, ent)
					o.Imports = named(8, 0).Imports[:imports]
					o.Types[2].Mod = 1
					o.Text = strings.Repeat("\x00", text)
					o.Exports = nil
					for i := range exports {
						o.Exports = append(o.Exports, api.Export{Kind: i % 3, At: i % 3})
					}
					checkOne(t, o, mayRefer(which, mod, ent, imports, exports, text), 7)
				}
			}
		}
	}
}

// Nothing is there to be meant: no imports, no exports, no text, whose end is its beginning.
func TestP14_1ReferencesWhereNothingIs(t *testing.T) {
	for which := range 3 {
		for mod := range 16 {
			for ent := range 64 {
				o := bare()
				o.Code = []uint32{link(ops[which], 0, mod, ent)}
				o.Fix[which] = 1
				checkOne(t, o, which == 1 && mod == 15 && ent == 0, 7)
			}
		}
	}
}

func TestP14_1TextsEnds(t *testing.T) {
	for length := range 61 {
		for ent := range 64 {
			o := bare()
			o.Text = strings.Repeat("y", length)
			o.Code = []uint32{link(api.Set, 0, 15, ent)}
			o.Fix[1] = 1
			checkOne(t, o, ent <= length, 7)
		}
	}
}

// An import's exports and texts aren't looked at: the own ones turn nothing.
func TestP14_1ImportsAreNotLookedAt(t *testing.T) {
	for imports := 1; imports <= 8; imports++ {
		for mod := 1; mod <= 14; mod++ {
			for which := range 3 {
				for _, ent := range []int{0, 1, 63} {
					o := bare()
					o.Imports = named(8, 0).Imports[:imports]
					o.Code = []uint32{link(ops[which], 0, mod, ent)}
					o.Fix[which] = 1
					checkOne(t, o, mod <= imports, 7)
				}
			}
		}
	}
}

// All chains of four words that lead anywhere, from all heads.
func TestP14_1EachFewWords(t *testing.T) {
	var words []uint32
	for down := range 3 {
		words = append(words, link(api.Set, down, 1, down), link(api.Call, down, 1, down))
	}
	words = append(words, link(api.Set, 0, 0, 0), other)
	may := 0
	for number := range 8 * 8 * 8 * 8 {
		o := long(4)
		o.Imports = []api.Import{{Name: "A"}}
		o.Exports = []api.Export{{Kind: api.Rec}}
		o.Types = []api.Type{{Base: -1}}
		for i := range o.Code {
			o.Code[i] = words[number>>(3*i)&7]
		}
		for heads := range 6 * 6 {
			o.Fix = [3]int{number % 5, heads % 6, heads / 6}
			if len(checkPlain(t, o)) == 0 {
				may++
			}
		}
	}
	if may < 3000 {
		t.Errorf("only %d of them may be modules", may)
	}
}

func TestP14_1Fits(t *testing.T) {
	want := [3][3]bool{{true, false, false}, {true, true, false}, {false, false, true}}
	numbers := append(rising(-300, 1, 600), far...)
	for _, which := range numbers {
		for _, kind := range numbers {
			may := isAmong(which, 0, 2) && isAmong(kind, 0, 2) && want[which][kind]
			if Fits(which, kind) != may {
				t.Fatalf("Fits(%d, %d) = %v", which, kind, !may)
			}
		}
	}
	if !Fits(0, api.Proc) || !Fits(1, api.Proc) || !Fits(1, api.Var) || !Fits(2, api.Rec) || Fits(0, api.Var) || Fits(2, api.Proc) || Fits(1, api.Rec) {
		t.Error("Fits tells other kinds")
	}
}

// What Fits tells is what exports references may mean.
func TestP14_1FitsTellsWhatRefersToWhat(t *testing.T) {
	for which := range 3 {
		for kind := range 3 {
			o := bare()
			o.Data = 1
			o.Types = []api.Type{{Base: -1}}
			o.Exports = []api.Export{{Kind: kind}}
			o.Code = []uint32{link(ops[which], 0, 0, 0)}
			o.Fix[which] = 1
			checkOne(t, o, Fits(which, kind), 7)
		}
	}
}
