package check

import (
	"dowel/api"
	"slices"
	"strings"
	"testing"
)

// long is a module whose code has so many words.
func long(words int) api.Object {
	o := bare()
	o.Code = slices.Repeat([]uint32{other}, words)
	return o
}

func TestP14_1Data(t *testing.T) {
	for data := -70; data <= 140; data++ {
		o := bare()
		o.Data = data
		checkOne(t, o, isAmong(data, 0, 64), 2)
	}
	for _, data := range far {
		o := bare()
		o.Data = data
		checkBreaks(t, o, 2)
	}
	for data := 8; data <= 70; data++ {
		o := sample()
		o.Data = data
		checkOne(t, o, data <= 64, 2)
	}
}

func TestP14_1Text(t *testing.T) {
	for length := range 300 {
		for _, sign := range []string{"a", "\x00", "\xff", "\n"} {
			o := bare()
			o.Text = strings.Repeat(sign, length)
			checkOne(t, o, length <= 60, 2)
		}
	}
	for _, length := range []int{5, 6, 59, 60, 61, 62, 63, 64, 255, 256, 316, 65536, 65596, 1 << 20} {
		o := sample()
		o.Text = strings.Repeat("x", length)
		checkOne(t, o, length <= 60, 2)
	}
	o := bare()
	o.Text = strings.Repeat("é", 30)
	checkMay(t, o)
	o.Text = strings.Repeat("é", 31)
	checkBreaks(t, o, 2)
	o.Text = strings.Repeat("é", 30) + "a"
	checkBreaks(t, o, 2)
}

func TestP14_1Code(t *testing.T) {
	for words := range 530 {
		checkOne(t, long(words), isAmong(words, 1, 256), 2)
	}
	for _, words := range []int{65536, 65537, 65792, 1 << 20} {
		checkBreaks(t, long(words), 2)
	}
	for words := 16; words <= 520; words++ {
		o := sample()
		for len(o.Code) < words {
			o.Code = append(o.Code, uint32(words))
		}
		checkOne(t, o, words <= 256, 2)
	}
	for _, none := range [][]uint32{nil, {}} {
		o := sample()
		o.Code, o.Cmds, o.Exports, o.Fix, o.Body = none, nil, nil, [3]int{}, 0
		checkBreaks(t, o, 2)
	}
	// What lies behind a list's end, in its capacity, is none of its words.
	o := long(257)
	o.Code = o.Code[:256]
	checkMay(t, o)
	o.Code = o.Code[:0]
	checkBreaks(t, o, 2)
}

func TestP14_1WordsMayBeAny(t *testing.T) {
	for _, word := range []uint32{0, 1, 1 << 26, 20 << 26, 22 << 26, 63 << 26, 0x80000000, 0x0443FFFF, 0xFFFFFFFF} {
		o := bare()
		o.Code = []uint32{word}
		checkMay(t, o)
	}
}

func TestP14_1HowManyTypes(t *testing.T) {
	for count := range 300 {
		o := bare()
		for range count {
			o.Types = append(o.Types, api.Type{Size: 4, Base: -1})
		}
		checkOne(t, o, count <= 8, 3)
	}
	for _, count := range []int{3, 4, 7, 8, 9, 10, 16, 65536} {
		o := sample()
		for len(o.Types) < count {
			o.Types = append(o.Types, api.Type{Base: 0})
		}
		checkOne(t, o, count <= 8, 3)
	}
}

func TestP14_1SizesOfTypes(t *testing.T) {
	for which := range 3 {
		for size := -600; size <= 600; size++ {
			o := sample()
			o.Types[which].Size = size
			checkOne(t, o, isAmong(size, 0, 256) && size&3 == 0, 3)
		}
		for _, size := range far {
			o := sample()
			o.Types[which].Size = size
			checkBreaks(t, o, 3)
		}
	}
}

// typed has eight types that extend nothing, and so many imports.
func typed(imports int) api.Object {
	o := bare()
	o.Types = slices.Repeat([]api.Type{{Size: 8, Base: -1}}, 8)
	o.Imports = named(8, 0).Imports[:imports]
	return o
}

func TestP14_1BasesByHand(t *testing.T) {
	for _, c := range []struct {
		number, mod, base int
		may               bool
	}{
		{0, 0, -1, true}, {0, 0, -2, false}, {0, 0, 0, false}, {0, 0, 1, false}, {0, 1, -1, false}, {0, 1, 0, true}, {0, 1, 63, true}, {0, 1, 64, false},
		{0, 3, 0, true}, {0, 3, 63, true}, {0, 4, 0, false}, {0, 4, -1, false}, {0, -1, 0, false}, {0, -1, -1, false}, {0, 15, 0, false}, {0, 16, 0, false},
		{1, 0, -1, true}, {1, 0, 0, true}, {1, 0, 1, false}, {1, 0, 2, false}, {4, 0, 0, true}, {4, 0, 3, true}, {4, 0, 4, false}, {4, 0, 5, false},
		{7, 0, -1, true}, {7, 0, -2, false}, {7, 0, 0, true}, {7, 0, 6, true}, {7, 0, 7, false}, {7, 0, 8, false}, {7, 0, 63, false},
		{7, 3, 7, true}, {7, 3, 8, true}, {7, 2, 63, true}, {7, 2, 64, false}, {7, 2, -1, false}, {7, 2, -2, false}, {7, 4, 7, false}, {7, -1, 3, false},
	} {
		o := typed(3)
		o.Types[c.number] = api.Type{Size: 12, Mod: c.mod, Base: c.base}
		checkOne(t, o, c.may, 3)
	}
}

func TestP14_1EachBase(t *testing.T) {
	for _, imports := range []int{0, 1, 2, 7, 8} {
		for number := range 8 {
			for mod := -2; mod <= 17; mod++ {
				for base := -3; base <= 66; base++ {
					o := typed(imports)
					o.Types[number].Mod, o.Types[number].Base = mod, base
					may := mod == 0 && base >= -1 && base < number || mod >= 1 && mod <= imports && base >= 0 && base <= 63
					checkOne(t, o, may, 3)
				}
			}
			for _, n := range far {
				o := typed(imports)
				o.Types[number].Mod = n
				checkBreaks(t, o, 3)
				o.Types[number].Base = 0
				checkBreaks(t, o, 3)
				o = typed(imports)
				o.Types[number].Base = n
				checkBreaks(t, o, 3)
				o.Types[number].Mod = 1
				checkBreaks(t, o, 3)
			}
		}
	}
}

// How far a type extends others is not asked here.
func TestP14_1TypesInALongLine(t *testing.T) {
	o := typed(0)
	for i := range o.Types {
		o.Types[i].Base = i - 1
	}
	checkMay(t, o)
}

func TestP14_1CommandsPlaces(t *testing.T) {
	for _, words := range []int{1, 2, 3, 16, 255, 256} {
		for _, count := range []int{1, 2, 8} {
			for which := range count {
				for _, at := range append(around(0, words-1), words+8, words+256) {
					o := long(words)
					o.Cmds = named(2, count).Cmds
					for i := range o.Cmds {
						o.Cmds[i].At = words - 1
					}
					o.Cmds[which].At = at
					checkOne(t, o, isAmong(at, 0, words-1), 4)
				}
			}
		}
	}
}

func TestP14_1HowManyExports(t *testing.T) {
	for count := range 300 {
		for kind := range 3 {
			o := bare()
			o.Data = 1
			o.Types = []api.Type{{Base: -1}}
			o.Exports = slices.Repeat([]api.Export{{Kind: kind}}, count)
			checkOne(t, o, count <= 64, 4)
		}
	}
	for _, count := range []int{7, 8, 63, 64, 65, 66, 128, 65536} {
		o := sample()
		for len(o.Exports) < count {
			o.Exports = append(o.Exports, api.Export{Kind: len(o.Exports) % 3, At: len(o.Exports) % 3})
		}
		checkOne(t, o, count <= 64, 4)
	}
}

func TestP14_1KindsOfExports(t *testing.T) {
	for _, count := range []int{1, 2, 64} {
		for _, which := range []int{0, count / 2, count - 1} {
			for kind := -70; kind <= 70; kind++ {
				o := bare()
				o.Data = 1
				o.Types = []api.Type{{Base: -1}}
				o.Exports = make([]api.Export, count)
				o.Exports[which].Kind = kind
				checkOne(t, o, isAmong(kind, 0, 2), 4)
			}
			for _, kind := range far {
				o := sample()
				o.Exports = append(o.Exports, make([]api.Export, count-1)...)
				o.Exports = append(o.Exports, api.Export{Kind: kind})
				o.Exports = o.Exports[:min(len(o.Exports), 64)]
				o.Exports[len(o.Exports)-1].Kind = kind
				checkBreaks(t, o, 4)
			}
		}
	}
}

func TestP14_1PlacesOfExports(t *testing.T) {
	for _, words := range []int{1, 2, 5, 256} {
		for _, data := range []int{0, 1, 2, 9, 64} {
			for _, count := range []int{0, 1, 3, 8} {
				for kind, most := range []int{words, data, count} {
					for _, at := range append(around(0, most-1), words-1, words, data-1, data, count-1, count) {
						o := long(words)
						o.Data = data
						o.Types = slices.Repeat([]api.Type{{Base: -1}}, count)
						o.Exports = []api.Export{{Kind: kind, At: at}}
						checkOne(t, o, isAmong(at, 0, most-1), 4)
						o.Exports = append(make([]api.Export, 63), api.Export{Kind: kind, At: at})
						checkOne(t, o, isAmong(at, 0, most-1), 4)
						o.Exports = slices.Insert(make([]api.Export, 20), 9, api.Export{Kind: kind, At: at})
						checkOne(t, o, isAmong(at, 0, most-1), 4)
					}
				}
			}
		}
	}
}

func TestP14_1Bodies(t *testing.T) {
	for _, words := range []int{1, 2, 3, 16, 255, 256} {
		for _, body := range append(around(0, words), words+256) {
			o := long(words)
			o.Body = body
			checkOne(t, o, isAmong(body, 0, words), 6)
		}
	}
	for body := -20; body <= 40; body++ {
		o := sample()
		o.Body = body
		checkOne(t, o, isAmong(body, 0, 16), 6)
	}
}
