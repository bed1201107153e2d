package ins

import (
	"dowel/api"
	"errors"
	"math"
	"testing"
)

const (
	leastN = -131072
	mostN  = 131071
)

// ops are all operations that may be, those just beyond, those whose lowest six bits are one, and far ones.
func ops() []int {
	l := []int{math.MinInt, math.MinInt + 1, math.MinInt32, -64, -63, -22, 31, 32, 33, 63, 64, 65, 85, 1<<32 + 1, math.MaxInt32, math.MaxInt - 1, math.MaxInt}
	for op := -2; op <= 24; op++ {
		l = append(l, op)
	}
	return l
}

// regs are all registers, those just beyond, those whose lowest four bits are one, and far ones.
func regs() []int {
	l := []int{math.MinInt, math.MinInt32, -16, -15, 31, 32, 1 << 32, 1<<32 + 5, math.MaxInt32, math.MaxInt - 1, math.MaxInt}
	for r := -2; r <= 18; r++ {
		l = append(l, r)
	}
	return l
}

// numbers are those around the edges of both kinds of N, those whose lowest 18 bits could be one, and far ones.
func numbers() []int {
	l := []int{
		math.MinInt, math.MinInt + 1, math.MinInt32, -1 << 18, -1<<18 + 7, leastN - 2, leastN - 1, leastN, leastN + 1,
		-65536, 1000, 65535, 65536, mostN - 1, mostN, mostN + 1, mostN + 2, 1<<18 - 1, 1 << 18, 1<<18 + 7, 1<<32 + 3, math.MaxInt32, math.MaxInt - 1, math.MaxInt,
	}
	for n := -18; n <= 18; n++ {
		l = append(l, n)
	}
	return l
}

func isOneOf(n, from, to int) bool { return from <= n && n <= to }

// may is the chapter's list of what may be, in plain numbers.
func may(i api.Ins) bool {
	if !isOneOf(i.Op, 1, 21) || !isOneOf(i.A, 0, 15) || !isOneOf(i.B, 0, 15) {
		return false
	}
	if isOneOf(i.Op, 2, 10) {
		return isOneOf(i.N, 0, 15)
	}
	return isOneOf(i.N, -131072, 131071)
}

// wordOf is the word of what may be, by what its parts are worth.
func wordOf(i api.Ins) uint32 {
	n := i.N
	if n < 0 {
		n += 1 << 18
	}
	return uint32(((i.Op*16+i.A)*16+i.B)*(1<<18) + n)
}

// partsOf is what a word says, whether that may be or not.
func partsOf(w uint32) api.Ins {
	n := int(w % (1 << 18))
	if n > mostN {
		n -= 1 << 18
	}
	w /= 1 << 18
	return api.Ins{Op: int(w / 256), A: int(w / 16 % 16), B: int(w % 16), N: n}
}

func checkPut(t *testing.T, i api.Ins) {
	w, err := Put(i)
	if !may(i) {
		if w != 0 || err == nil || err != error(api.ErrArg) {
			t.Fatalf("Put(%+v) = %#x, %v, want 0, ErrArg", i, w, err)
		}
		return
	}
	if want := wordOf(i); w != want || err != nil {
		t.Fatalf("Put(%+v) = %#x, %v, want %#x", i, w, err, want)
	}
	if got, ok := Get(w); got != i || !ok {
		t.Fatalf("Get(%#x) = %+v, %v, but %+v was put", w, got, ok, i)
	}
}

func checkGet(t *testing.T, w uint32) {
	i, ok := Get(w)
	want := partsOf(w)
	if !may(want) {
		if ok || i != (api.Ins{}) {
			t.Fatalf("Get(%#x) = %+v, %v, want a zero one, false", w, i, ok)
		}
		return
	}
	if i != want || !ok {
		t.Fatalf("Get(%#x) = %+v, %v, want %+v, true", w, i, ok, want)
	}
	if got, err := Put(i); got != w || err != nil {
		t.Fatalf("Put(%+v) = %#x, %v, but it was got of %#x", i, got, err, w)
	}
}

// eachIns goes through all of ops, regs, regs and numbers together.
func eachIns(do func(i api.Ins)) {
	registers, ns := regs(), numbers()
	for _, op := range ops() {
		for _, a := range registers {
			for _, b := range registers {
				for _, n := range ns {
					do(api.Ins{Op: op, A: a, B: b, N: n})
				}
			}
		}
	}
}

func TestP2_1MayCases(t *testing.T) {
	for _, c := range []struct {
		i    api.Ins
		want bool
	}{
		{api.Ins{Op: api.Set, A: 1, N: -1}, true},
		{api.Ins{}, false}, {api.Ins{Op: 1}, true}, {api.Ins{Op: 21}, true}, {api.Ins{Op: 22}, false}, {api.Ins{Op: -1}, false},
		{api.Ins{Op: api.Go, A: 15}, true}, {api.Ins{Op: api.Go, A: 16}, false}, {api.Ins{Op: api.Go, A: -1}, false},
		{api.Ins{Op: api.Same, B: 15}, true}, {api.Ins{Op: api.Same, B: 16}, false}, {api.Ins{Op: api.Same, B: -1}, false},
		{api.Ins{Op: api.Set, N: -131072}, true}, {api.Ins{Op: api.Set, N: -131073}, false},
		{api.Ins{Op: api.Set, N: 131071}, true}, {api.Ins{Op: api.Set, N: 131072}, false},
		{api.Ins{Op: api.More, N: -131072}, true}, {api.Ins{Op: api.More, N: 131071}, true}, {api.Ins{Op: api.More, N: 16}, true}, {api.Ins{Op: api.More, N: -1}, true},
		{api.Ins{Op: api.Go, N: -131072}, true}, {api.Ins{Op: api.Go, N: 131072}, false},
		{api.Ins{Op: api.Add, N: 0}, true}, {api.Ins{Op: api.Add, N: 15}, true}, {api.Ins{Op: api.Add, N: 16}, false}, {api.Ins{Op: api.Add, N: -1}, false},
		{api.Ins{Op: api.Shr, N: 0}, true}, {api.Ins{Op: api.Shr, N: 15}, true}, {api.Ins{Op: api.Shr, N: 16}, false}, {api.Ins{Op: api.Shr, N: -1}, false},
		{api.Ins{Op: math.MaxInt, A: math.MaxInt, B: math.MaxInt, N: math.MaxInt}, false},
		{api.Ins{Op: math.MinInt, A: math.MinInt, B: math.MinInt, N: math.MinInt}, false},
	} {
		if got := May(c.i); got != c.want {
			t.Errorf("May(%+v) = %v, want %v", c.i, got, c.want)
		}
	}
}

func TestP2_1PutCases(t *testing.T) {
	for _, c := range []struct {
		i    api.Ins
		want uint32
	}{
		{api.Ins{Op: api.Set, A: 1, N: -1}, 0x0443FFFF},
		{api.Ins{Op: api.Set}, 0x04000000}, {api.Ins{Op: api.Go}, 0x54000000}, {api.Ins{Op: api.Go, A: 15, B: 15, N: -1}, 0x57FFFFFF},
		{api.Ins{Op: api.Set, A: 15}, 0x07C00000}, {api.Ins{Op: api.Set, B: 15}, 0x043C0000}, {api.Ins{Op: api.Set, B: 1}, 0x04040000},
		{api.Ins{Op: api.Set, N: 131071}, 0x0401FFFF}, {api.Ins{Op: api.Set, N: -131072}, 0x04020000}, {api.Ins{Op: api.Set, N: 1}, 0x04000001},
		{api.Ins{Op: api.Add, A: 1, B: 2, N: 3}, 0x08480003}, {api.Ins{Op: api.Shr, A: 15, B: 15, N: 15}, 0x2BFC000F},
		{api.Ins{Op: api.More, A: 3, B: 4, N: 16}, 0x2CD00010}, {api.Ins{Op: api.Call, A: 15, N: -2}, 0x53C3FFFE},
	} {
		if got, err := Put(c.i); got != c.want || err != nil {
			t.Errorf("Put(%+v) = %#x, %v, want %#x", c.i, got, err, c.want)
		}
		if got, ok := Get(c.want); got != c.i || !ok {
			t.Errorf("Get(%#x) = %+v, %v, want %+v", c.want, got, ok, c.i)
		}
	}
}

func TestP2_1PutOfWhatMayNotBe(t *testing.T) {
	for _, i := range []api.Ins{
		{}, {Op: 22}, {Op: -1}, {Op: 64 + api.Set}, {Op: 1<<32 + api.Set},
		{Op: api.Set, A: 16}, {Op: api.Set, A: -1}, {Op: api.Set, B: 16}, {Op: api.Set, B: -1},
		{Op: api.Set, N: 131072}, {Op: api.Set, N: -131073}, {Op: api.Set, N: 1 << 18}, {Op: api.Go, N: math.MaxInt}, {Op: api.Go, N: math.MinInt},
		{Op: api.Add, N: 16}, {Op: api.Add, N: -1}, {Op: api.Shr, N: 16}, {Op: api.Shr, N: -1}, {Op: api.Mul, N: 131071}, {Op: api.Mul, N: -131072},
	} {
		w, err := Put(i)
		var code api.Code
		if !errors.As(err, &code) || code != api.ErrArg || w != 0 {
			t.Errorf("Put(%+v) = %#x, %v, want 0, ErrArg", i, w, err)
		}
		if _, itself := err.(api.Code); !itself {
			t.Errorf("Put(%+v): the error is not the Code itself", i)
		}
	}
}

func TestP2_1GetOfWhatMayNotBe(t *testing.T) {
	for _, w := range []uint32{
		0, 1, 0x03FFFFFF, // Op 0
		22 << 26, 0x58000001, 32 << 26, 63 << 26, 0xFFFFFFFF, 0x80000000,
		0x08000010, 0x0803FFFF, 0x08020000, 0x0801FFFF, // Add with an N that is no register
		0x28000010, 0x2803FFFF, 0x2BFE0000, // Shr likewise
	} {
		if i, ok := Get(w); ok || i != (api.Ins{}) {
			t.Errorf("Get(%#x) = %+v, %v, want a zero one, false", w, i, ok)
		}
	}
}

func TestP2_1AroundAllEdges(t *testing.T) {
	eachIns(func(i api.Ins) {
		if got, want := May(i), may(i); got != want {
			t.Fatalf("May(%+v) = %v, want %v", i, got, want)
		}
		checkPut(t, i)
	})
}

// Each of the 64 operations that a word can tell, with each number, and registers that change from word to word.
func TestP2_2EachOpAndNumberOfAWord(t *testing.T) {
	for op := range uint32(64) {
		for n := range uint32(1 << 18) {
			checkGet(t, op<<26|(n*37+op)%256<<18|n)
		}
	}
}

func TestP2_2EachOpAndRegistersOfAWord(t *testing.T) {
	for head := range uint32(1 << 14) {
		for _, n := range []uint32{0, 1, 14, 15, 16, 17, 31, 1<<17 - 1, 1 << 17, 1<<17 + 1, 1<<18 - 16, 1<<18 - 1} {
			checkGet(t, head<<18|n)
		}
	}
}

func TestP2_2EachNumberOfAnInstruction(t *testing.T) {
	for n := leastN - 3; n <= mostN+3; n++ {
		checkPut(t, api.Ins{Op: api.Set, A: 9, B: 6, N: n})
		checkPut(t, api.Ins{Op: api.Xor, A: 6, B: 9, N: n})
		checkPut(t, api.Ins{Op: api.Call, A: 15, N: n})
	}
}

func TestP1NoneOfTheCallsPanics(t *testing.T) {
	far := []int{math.MinInt, math.MinInt32, -1, 0, 1, math.MaxInt32, math.MaxInt}
	for _, op := range far {
		for _, a := range far {
			for _, b := range far {
				for _, n := range far {
					May(api.Ins{Op: op, A: a, B: b, N: n})
					Put(api.Ins{Op: op, A: a, B: b, N: n})
				}
			}
		}
	}
	for n := range 32 {
		Get(1 << n)
		Get(^uint32(0) >> n)
		Get(^uint32(0) << n)
	}
}
