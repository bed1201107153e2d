package chain

import (
	"dowel/api"
	"math"
	"slices"
	"testing"
)

const (
	leastN = -131072
	mostN  = 131071
	ns     = 1 << 18 // so many N there are
)

// far are numbers far beyond all that may be, some with lowest bits that could be one.
var far = []int{
	math.MinInt, math.MinInt + 1, math.MinInt32, -1 << 32, -1<<32 + 1, -1 << 18, -65536, -1024, -257, -256, -255, -64, -16, -2, -1,
	1 << 18, 1<<31 - 1, 1 << 31, 1 << 32, 1<<32 + 1, 1<<32 + 7, 1<<48 + 3, math.MaxInt - 1, math.MaxInt,
}

// isAmong tells whether a number is one of a range, both ends with it.
func isAmong(n, from, to int) bool { return from <= n && n <= to }

// mayBe is chapter 2's list of what may be, in plain numbers.
func mayBe(i api.Ins) bool {
	if !isAmong(i.Op, 1, 21) || !isAmong(i.A, 0, 15) || !isAmong(i.B, 0, 15) {
		return false
	}
	if isAmong(i.Op, 2, 10) {
		return isAmong(i.N, 0, 15)
	}
	return isAmong(i.N, leastN, mostN)
}

// wordOf is the word of any op from 0 to 63, any registers, and an N without a sign, whether such an instruction may be or not.
func wordOf(op, a, b, n int) uint32 { return uint32(((op*16+a)*16+b)*ns + n) }

// unsigned is an N as 18 bits without a sign.
func unsigned(down, mod, ent int) int { return (down*16+mod)*64 + ent }

// signed is the same N as an instruction has it.
func signed(n int) int {
	if n > mostN {
		return n - ns
	}
	return n
}

// link is the word of a chain's instruction: op is to be none of Add to Shr.
func link(op, down, mod, ent int) uint32 { return wordOf(op, 3, 0, unsigned(down, mod, ent)) }

// walk is the chapter's promise in plain numbers: false is ErrForm.
func walk(code []uint32, head, op int) ([]Ref, bool) {
	refs := []Ref{}
	if head == 0 {
		return refs, true
	}
	if head < 0 {
		return nil, false
	}
	at := head - 1
	for {
		if at < 0 || at >= len(code) {
			return nil, false
		}
		w := int(code[at])
		n := w % ns
		i := api.Ins{Op: w / ns / 256, A: w / ns / 16 % 16, B: w / ns % 16, N: signed(n)}
		if !mayBe(i) || i.Op != op || i.B != 0 {
			return nil, false
		}
		refs = append(refs, Ref{At: at, Mod: n / 64 % 16, Ent: n % 64})
		if n/1024 == 0 {
			return refs, true
		}
		at -= n / 1024
	}
}

// checkRefs walks, and holds what is told against what is wanted.
func checkRefs(t *testing.T, code []uint32, head, op int, want []Ref) {
	t.Helper()
	refs, err := Walk(code, head, op)
	if err != nil || !slices.Equal(refs, want) {
		t.Fatalf("Walk(%d words, %d, %d) = %v, %v, want %v", len(code), head, op, refs, err, want)
	}
}

// checkForm walks what is no chain.
func checkForm(t *testing.T, code []uint32, head, op int) {
	t.Helper()
	refs, err := Walk(code, head, op)
	if len(refs) != 0 || err == nil || err != error(api.ErrForm) {
		t.Fatalf("Walk(%d words, %d, %d) = %v, %v, want none, ErrForm", len(code), head, op, refs, err)
	}
}

// checkWalk holds Walk against walk.
func checkWalk(t *testing.T, code []uint32, head, op int) {
	t.Helper()
	if want, ok := walk(code, head, op); ok {
		checkRefs(t, code, head, op, want)
		return
	}
	checkForm(t, code, head, op)
}

// checkMark holds Mark against the chapter's promise, in plain numbers.
func checkMark(t *testing.T, i api.Ins, down, mod, ent int) {
	t.Helper()
	got, err := Mark(i, down, mod, ent)
	if !mayBe(i) || !isAmong(down, 0, 255) || !isAmong(mod, 0, 15) || !isAmong(ent, 0, 63) {
		if got != (api.Ins{}) || err == nil || err != error(api.ErrArg) {
			t.Fatalf("Mark(%+v, %d, %d, %d) = %+v, %v, want a zero one, ErrArg", i, down, mod, ent, got, err)
		}
		return
	}
	want := api.Ins{Op: i.Op, A: i.A, B: i.B, N: signed(unsigned(down, mod, ent))}
	if got != want || err != nil {
		t.Fatalf("Mark(%+v, %d, %d, %d) = %+v, %v, want %+v", i, down, mod, ent, got, err, want)
	}
}
