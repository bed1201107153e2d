package check

import (
	"dowel/api"
	"slices"
	"testing"
)

// celled is a module with declared cells, told in both ways: these as Ptrs and those as Procs, and the other way round.
func celled(data int, these, those []int) []api.Object {
	one, two := bare(), bare()
	one.Data, one.Ptrs, one.Procs = data, these, those
	two.Data, two.Ptrs, two.Procs = data, those, these
	return []api.Object{one, two}
}

// checkCells asks of both ways.
func checkCells(t *testing.T, data int, these, those []int, may bool) {
	t.Helper()
	for _, o := range celled(data, these, those) {
		checkOne(t, o, may, 5)
	}
}

// rising are so many words from one on, each so far behind the one ahead of it.
func rising(from, by, count int) []int {
	list := []int{}
	for i := range count {
		list = append(list, from+i*by)
	}
	return list
}

func TestP14_1HowManyCells(t *testing.T) {
	for these := range 40 {
		for those := range 25 {
			checkCells(t, 64, rising(0, 1, these), rising(these, 1, those), these <= 16 && those <= 16)
		}
	}
	checkCells(t, 64, rising(0, 2, 16), rising(1, 2, 16), true)
	checkCells(t, 64, rising(0, 2, 17), rising(1, 2, 16), false)
	checkCells(t, 64, rising(0, 1, 64), nil, false)
	checkCells(t, 64, rising(48, 1, 16), rising(32, 1, 16), true)
}

func TestP14_1WhereCellsAre(t *testing.T) {
	for data := range 65 {
		for _, word := range append(around(0, data-1), data+64, data+256) {
			checkCells(t, data, []int{word}, nil, isAmong(word, 0, data-1))
			if data > 4 && word > 2 {
				checkCells(t, data, []int{0, 2, word}, []int{1}, isAmong(word, 0, data-1))
			}
			if word < 0 {
				checkCells(t, data, append([]int{word}, rising(0, 1, min(data, 15))...), nil, false)
				checkCells(t, data, []int{word}, rising(0, 1, min(data, 16)), false)
			}
		}
	}
}

func TestP14_1CellsRise(t *testing.T) {
	for count := 2; count <= 16; count++ {
		pairs(count, func(i, j int) {
			list := rising(3, 2, count)
			list[i], list[j] = list[j], list[i]
			checkCells(t, 64, list, []int{2, 4}, false)
			list = rising(3, 2, count)
			list[j] = list[i]
			checkCells(t, 64, list, nil, false)
			list = rising(3, 2, count)
			list[i] = list[j]
			checkCells(t, 64, list, []int{0}, false)
		})
		falling := rising(3, 2, count)
		slices.Reverse(falling)
		checkCells(t, 64, falling, nil, false)
		checkCells(t, 64, slices.Repeat([]int{7}, count), nil, false)
	}
}

func TestP14_1NoWordIsInBoth(t *testing.T) {
	for these := 1; these <= 16; these++ {
		for those := 1; those <= 16; those++ {
			for i := range these {
				for j := range those {
					a, b := rising(0, 4, these), rising(2, 4, those)
					checkCells(t, 64, a, b, true)
					b[j] = a[i]
					slices.Sort(b)
					checkCells(t, 64, a, b, false)
				}
			}
		}
	}
	checkCells(t, 64, rising(0, 1, 16), rising(0, 1, 16), false)
}

// All lists of up to three words around those of two and three data words.
func TestP14_1EachFewCells(t *testing.T) {
	var lists [][]int
	lists = append(lists, nil, []int{})
	for a := -1; a <= 3; a++ {
		lists = append(lists, []int{a})
		for b := -1; b <= 3; b++ {
			lists = append(lists, []int{a, b})
			for c := -1; c <= 3; c++ {
				lists = append(lists, []int{a, b, c})
			}
		}
	}
	for data := range 4 {
		for _, these := range lists {
			for _, those := range lists {
				o := bare()
				o.Data, o.Ptrs, o.Procs = data, these, those
				checkPlain(t, o)
			}
		}
	}
}
