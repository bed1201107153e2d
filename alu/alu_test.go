package alu

import (
	"dowel/api"
	"math"
	"testing"
)

const (
	least = math.MinInt32
	most  = math.MaxInt32
)

var named = []int{api.Add, api.Sub, api.Mul, api.Div, api.And, api.Or, api.Xor, api.Shl, api.Shr}

// numbers are small ones, those around each power of two, their negatives, and patterns of bits.
func numbers() []int32 {
	l := []int32{least, least + 1, least + 2, most - 2, most - 1, most, 0x55555555, -0x55555556, 0x12345678, -0x12345678, 46340, 46341, -46340, -46341, 1000000007}
	for n := int32(-40); n <= 40; n++ {
		l = append(l, n)
	}
	for n := 6; n < 31; n++ {
		p := int32(1) << n
		l = append(l, p-1, p, p+1, 1-p, -p, -p-1)
	}
	return l
}

// otherOps are those of a list's neighbours, those whose lowest bits are one of the list, and far ones.
func otherOps(listed func(op int) bool) []int {
	all := []int{math.MinInt, math.MinInt + api.Add, math.MinInt32, -64, -32 + api.Add, -32 + api.Jump, 64 + api.Div, 256 + api.Same, 1<<8 + api.Add, 1<<16 + api.Less, 1<<32 + api.Add, 1<<32 + api.Jump, math.MaxInt32, math.MaxInt - 1, math.MaxInt}
	for op := -24; op <= 70; op++ {
		all = append(all, op)
	}
	var l []int
	for _, op := range all {
		if !listed(op) {
			l = append(l, op)
		}
	}
	return l
}

func isDone(op int) bool { return 2 <= op && op <= 10 }

func isCondition(op int) bool { return 16 <= op && op <= 19 }

// wrapped is n modulo 2^32, with a sign.
func wrapped(n int64) int32 {
	const round = 1 << 32
	n = (n%round + round) % round
	if n >= round/2 {
		n -= round
	}
	return int32(n)
}

// quotient counts by sizes without signs, so that it is cut off toward 0.
func quotient(x, y int64) int64 {
	size := max(x, -x) / max(y, -y)
	if (x < 0) != (y < 0) {
		return -size
	}
	return size
}

// floored is x divided by a number above 0, cut off downward.
func floored(x, y int64) int64 {
	q := x / y
	if q*y > x {
		q--
	}
	return q
}

// bitByBit asks for each place whether the bit is to be there, and adds up what the bits are worth.
func bitByBit(x, y int64, has func(a, b bool) bool) int64 {
	const round = 1 << 32
	x, y = (x+round)%round, (y+round)%round
	var sum int64
	for worth := int64(1); worth < round; worth *= 2 {
		if has(x/worth%2 == 1, y/worth%2 == 1) {
			sum += worth
		}
	}
	return sum
}

// model is the chapter's list in numbers of 64 bits, of which none overflows here.
func model(op int, a, b int32) (int32, int) {
	x, y := int64(a), int64(b)
	by := int64(1) << ((y%32 + 32) % 32)
	switch op {
	case 2:
		return wrapped(x + y), 0
	case 3:
		return wrapped(x - y), 0
	case 4:
		return wrapped(x * y), 0
	case 5:
		if y == 0 {
			return 0, 4
		}
		return wrapped(quotient(x, y)), 0
	case 6:
		return wrapped(bitByBit(x, y, func(a, b bool) bool { return a && b })), 0
	case 7:
		return wrapped(bitByBit(x, y, func(a, b bool) bool { return a || b })), 0
	case 8:
		return wrapped(bitByBit(x, y, func(a, b bool) bool { return a != b })), 0
	case 9:
		return wrapped(x * by), 0
	case 10:
		return wrapped(floored(x, by)), 0
	}
	return 0, 1
}

type doCase struct {
	op   int
	x, y int32
	want int32
}

func checkCases(t *testing.T, cases []doCase) {
	t.Helper()
	for _, c := range cases {
		if got, trap := Do(c.op, c.x, c.y); got != c.want || trap != 0 {
			t.Errorf("Do(%d, %d, %d) = %d, %d, want %d, 0", c.op, c.x, c.y, got, trap, c.want)
		}
	}
}

func TestP3_1SumsDifferencesProducts(t *testing.T) {
	checkCases(t, []doCase{
		{api.Add, 2, 3, 5}, {api.Add, -2, -3, -5}, {api.Add, 0, 0, 0}, {api.Add, most, 1, least}, {api.Add, least, -1, most}, {api.Add, least, least, 0}, {api.Add, most, most, -2}, {api.Add, least, most, -1},
		{api.Sub, 2, 3, -1}, {api.Sub, 3, 2, 1}, {api.Sub, -2, -3, 1}, {api.Sub, least, 1, most}, {api.Sub, most, -1, least}, {api.Sub, 0, least, least}, {api.Sub, -1, least, most}, {api.Sub, least, least, 0},
		{api.Mul, 6, 7, 42}, {api.Mul, -6, 7, -42}, {api.Mul, -6, -7, 42}, {api.Mul, 0, least, 0}, {api.Mul, least, -1, least}, {api.Mul, least, 2, 0}, {api.Mul, least, least, 0}, {api.Mul, most, most, 1},
		{api.Mul, most, 2, -2}, {api.Mul, 65536, 65536, 0}, {api.Mul, 65536, 32768, least}, {api.Mul, 46341, 46341, -2147479015}, {api.Mul, 46340, 46340, 2147395600},
	})
}

func TestP3_1Quotients(t *testing.T) {
	checkCases(t, []doCase{
		{api.Div, -7, 2, -3}, {api.Div, 7, 2, 3}, {api.Div, 7, -2, -3}, {api.Div, -7, -2, 3},
		{api.Div, 1, 2, 0}, {api.Div, -1, 2, 0}, {api.Div, 1, -2, 0}, {api.Div, -1, -2, 0}, {api.Div, 0, 5, 0}, {api.Div, 0, -5, 0},
		{api.Div, 6, 3, 2}, {api.Div, -6, 3, -2}, {api.Div, 6, -3, -2}, {api.Div, -6, -3, 2},
		{api.Div, least, -1, least}, {api.Div, least, 1, least}, {api.Div, least, 2, -1073741824}, {api.Div, least, -2, 1073741824}, {api.Div, least, least, 1}, {api.Div, least, most, -1},
		{api.Div, most, -1, -most}, {api.Div, most, least, 0}, {api.Div, most, most, 1}, {api.Div, least + 1, -1, most}, {api.Div, -1, least, 0},
	})
}

func TestP3_1DividedByZero(t *testing.T) {
	for _, x := range numbers() {
		if got, trap := Do(api.Div, x, 0); got != 0 || trap != api.TrapDivide {
			t.Errorf("Do(Div, %d, 0) = %d, %d, want 0, TrapDivide", x, got, trap)
		}
	}
}

func TestP3_1Bits(t *testing.T) {
	checkCases(t, []doCase{
		{api.And, 12, 10, 8}, {api.Or, 12, 10, 14}, {api.Xor, 12, 10, 6},
		{api.And, -1, 5, 5}, {api.Or, -1, 5, -1}, {api.Xor, -1, 5, -6},
		{api.And, -12, 10, 0}, {api.And, -12, -10, -12}, {api.Or, -12, -10, -10}, {api.Xor, -12, -10, 2},
		{api.And, least, -1, least}, {api.And, least, most, 0}, {api.Or, least, most, -1}, {api.Or, least, 1, least + 1}, {api.Xor, least, -1, most}, {api.Xor, least, least, 0}, {api.Xor, most, -1, least},
	})
}

func TestP3_1Shifts(t *testing.T) {
	checkCases(t, []doCase{
		{api.Shl, 5, 0, 5}, {api.Shl, 5, 1, 10}, {api.Shl, -5, 1, -10}, {api.Shl, 1, 31, least}, {api.Shl, 2, 31, 0}, {api.Shl, -1, 31, least}, {api.Shl, 3, 30, -1073741824}, {api.Shl, least, 1, 0}, {api.Shl, most, 1, -2},
		{api.Shl, 5, 32, 5}, {api.Shl, 5, 33, 10}, {api.Shl, 5, 64, 5}, {api.Shl, 1, 63, least}, {api.Shl, 5, -1, least}, {api.Shl, 5, -31, 10}, {api.Shl, 5, -32, 5}, {api.Shl, 5, least, 5}, {api.Shl, 1, most, least},
		{api.Shr, 5, 0, 5}, {api.Shr, 5, 1, 2}, {api.Shr, -5, 1, -3}, {api.Shr, -1, 1, -1}, {api.Shr, -1, 31, -1}, {api.Shr, least, 31, -1}, {api.Shr, most, 31, 0}, {api.Shr, least, 1, -1073741824}, {api.Shr, most, 30, 1},
		{api.Shr, -5, 32, -5}, {api.Shr, -5, 33, -3}, {api.Shr, 5, 64, 5}, {api.Shr, least, 63, -1}, {api.Shr, -5, -1, -1}, {api.Shr, 5, -1, 0}, {api.Shr, -5, -31, -3}, {api.Shr, -5, -32, -5}, {api.Shr, least, least, least}, {api.Shr, least, most, -1},
	})
}

func TestP3_1AsTheModel(t *testing.T) {
	l := numbers()
	for _, op := range named {
		for _, x := range l {
			for _, y := range l {
				want, wantTrap := model(op, x, y)
				if got, trap := Do(op, x, y); got != want || trap != wantTrap {
					t.Fatalf("Do(%d, %d, %d) = %d, %d, want %d, %d", op, x, y, got, trap, want, wantTrap)
				}
			}
		}
	}
}

func TestP3_1AnyOtherOp(t *testing.T) {
	for _, op := range otherOps(isDone) {
		for _, x := range []int32{least, -7, -1, 0, 1, 7, most} {
			for _, y := range []int32{least, -1, 0, 1, 2, 32, most} {
				if got, trap := Do(op, x, y); got != 0 || trap != api.TrapCode {
					t.Fatalf("Do(%d, %d, %d) = %d, %d, want 0, TrapCode", op, x, y, got, trap)
				}
			}
		}
	}
}

func TestP3_2Cases(t *testing.T) {
	for _, c := range []struct {
		x, y              int32
		same, other, less bool
	}{
		{0, 0, true, false, false}, {1, 2, false, true, true}, {2, 1, false, true, false}, {-1, 1, false, true, true}, {1, -1, false, true, false},
		{-2, -1, false, true, true}, {-1, -2, false, true, false}, {-1, 0, false, true, true}, {0, -1, false, true, false},
		{least, most, false, true, true}, {most, least, false, true, false}, {least, least, true, false, false}, {most, most, true, false, false},
		{least, least + 1, false, true, true}, {most - 1, most, false, true, true}, {most, most - 1, false, true, false}, {least, 0, false, true, true}, {0, least, false, true, false}, {0, most, false, true, true},
	} {
		for op, want := range map[int]bool{api.Same: c.same, api.Other: c.other, api.Less: c.less, api.Jump: true} {
			if got := Meets(op, c.x, c.y); got != want {
				t.Errorf("Meets(%d, %d, %d) = %v, want %v", op, c.x, c.y, got, want)
			}
		}
	}
}

func TestP3_2AsNumbersOf64Bits(t *testing.T) {
	l := numbers()
	for _, x := range l {
		for _, y := range l {
			between := int64(x) - int64(y)
			if Meets(api.Same, x, y) != (between == 0) || Meets(api.Other, x, y) != (between != 0) || Meets(api.Less, x, y) != (between < 0) || !Meets(api.Jump, x, y) {
				t.Fatalf("Meets of %d and %d", x, y)
			}
		}
	}
}

func TestP3_2AnyOtherOp(t *testing.T) {
	for _, op := range otherOps(isCondition) {
		for _, x := range []int32{least, -1, 0, 1, most} {
			for _, y := range []int32{least, -1, 0, 1, most} {
				if Meets(op, x, y) {
					t.Fatalf("Meets(%d, %d, %d) = true", op, x, y)
				}
			}
		}
	}
}

// done is what an operation that can't trap comes to.
func done(t *testing.T, op int, x, y int32) int32 {
	t.Helper()
	n, trap := Do(op, x, y)
	if trap != 0 {
		t.Fatalf("Do(%d, %d, %d) trapped: %d", op, x, y, trap)
	}
	return n
}

func TestP3_3AddedAndTakenOff(t *testing.T) {
	l := numbers()
	for _, x := range l {
		for _, y := range l {
			if got := done(t, api.Sub, done(t, api.Add, x, y), y); got != x {
				t.Fatalf("%d, with %d added and taken off, is %d", x, y, got)
			}
			if got := done(t, api.Add, done(t, api.Sub, x, y), y); got != x {
				t.Fatalf("%d, with %d taken off and added, is %d", x, y, got)
			}
		}
	}
}

func TestP3_3JustOneOfThreeIsMet(t *testing.T) {
	l := numbers()
	for _, x := range l {
		for _, y := range l {
			met := 0
			for _, is := range []bool{Meets(api.Less, x, y), Meets(api.Same, x, y), Meets(api.Less, y, x)} {
				if is {
					met++
				}
			}
			if met != 1 {
				t.Fatalf("of %d and %d %d are met", x, y, met)
			}
		}
	}
}

// All that could panic: shifts by numbers below 0, and quotients; R3: with a trap there is no number.
func TestP1R3NoneOfTheCallsPanics(t *testing.T) {
	l := numbers()
	for _, op := range append(otherOps(func(int) bool { return false }), named...) {
		for _, x := range []int32{least, -1, 0, 1, most} {
			for _, y := range l {
				if n, trap := Do(op, x, y); trap != 0 && n != 0 {
					t.Fatalf("Do(%d, %d, %d) = %d with trap %d", op, x, y, n, trap)
				}
				Meets(op, x, y)
			}
		}
	}
}
