package reloc

import (
	"dowel/api"
	"math/rand"
	"testing"
)

// anyWord is mostly a Call or a Set.
func anyWord(r *rand.Rand) uint32 {
	switch r.Intn(8) {
	case 0:
		return r.Uint32()
	case 1:
		return wordOf(r.Intn(64), r.Intn(16), r.Intn(16), r.Intn(16))
	case 2, 3, 4:
		return set(r.Intn(16), r.Intn(16), r.Intn(1<<18))
	}
	return call(r.Intn(16), r.Intn(16), r.Intn(1<<18))
}

// anyPlace is mostly one that an instruction can tell.
func anyPlace(r *rand.Rand) int {
	switch r.Intn(60) {
	case 0:
		return far[r.Intn(len(far))]
	case 1:
		return int(r.Uint64())
	case 2:
		return 600000 - r.Intn(1200000)
	}
	return r.Intn(140000) - 5000
}

// anyFix is mostly one of an instruction that may have it; the others are now and then.
func anyFix(r *rand.Rand, code []uint32, from int) Fix {
	f := Fix{At: r.Intn(len(code)+3) - 1, Target: anyPlace(r)}
	for range 6 {
		if f.At >= 0 && f.At < len(code) && (code[f.At]>>26 == api.Call || code[f.At]>>26 == api.Set) {
			break
		}
		f.At = r.Intn(len(code)+3) - 1
	}
	if r.Intn(90) == 0 {
		f.At = far[r.Intn(len(far))]
	}
	if r.Intn(3) == 0 {
		// Around where the instruction behind it lies, and around the least and the greatest N.
		f.Target = from + 4*(f.At+1) + []int{0, 0, 0, 4 * mostN, 4 * leastN}[r.Intn(5)] + r.Intn(25) - 12
	}
	return f
}

func TestP17_1AnyCode(t *testing.T) {
	r := rand.New(rand.NewSource(171))
	linked, refused := 0, 0
	for range 60000 {
		code := make([]uint32, r.Intn(40))
		for at := range code {
			code[at] = anyWord(r)
		}
		from := anyPlace(r)
		fixes := make([]Fix, r.Intn(7))
		for i := range fixes {
			fixes[i] = anyFix(r, code, from)
		}
		if !checkPlain(t, code, from, fixes) {
			refused++
		} else if len(fixes) > 0 {
			linked++
		}
	}
	if linked < 5000 || refused < 5000 {
		t.Fatalf("only %d were linked, and %d refused", linked, refused)
	}
}

// One fix of one word: all that it hangs on.
func TestP17_1AnyFixOfAWord(t *testing.T) {
	r := rand.New(rand.NewSource(172))
	for range 200000 {
		code := []uint32{anyWord(r)}
		from := anyPlace(r)
		checkPlain(t, code, from, []Fix{{0, anyPlace(r)}})
		checkPlain(t, code, from, []Fix{{0, from + r.Intn(1200000) - 600000}})
	}
}

// Linked once more from elsewhere it is as if it had been linked from there alone.
func TestP17_3LinkedOnceMore(t *testing.T) {
	r := rand.New(rand.NewSource(174))
	for range 5000 {
		code, fixes := make([]uint32, 1+r.Intn(20)), []Fix{}
		for at := range code {
			code[at] = anyWord(r)
			if op := code[at] >> 26; op == api.Call || op == api.Set {
				fixes = append(fixes, Fix{at, r.Intn(65536)})
			}
		}
		first, err := Link(code, 4*r.Intn(16000), fixes)
		if err != nil {
			t.Fatal(err)
		}
		from := 4 * r.Intn(16000)
		want, _ := plainLink(code, from, fixes)
		checkLink(t, first, from, fixes, want)
	}
}
