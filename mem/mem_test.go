package mem

import (
	"dowel/api"
	"errors"
	"math"
	"slices"
	"testing"
)

var sizes = []int{1024, 1028, 4096, 65532, 65536}

// made is a memory of a size that may be.
func made(t *testing.T, size int) *Memory {
	t.Helper()
	m, err := New(size)
	if m == nil || err != nil {
		t.Fatalf("New(%d) = %v, %v, want a memory", size, m, err)
	}
	return m
}

// filled is a memory whose bytes are none of them 0, together with these bytes.
func filled(t *testing.T, size int) (*Memory, []byte) {
	t.Helper()
	m := made(t, size)
	bytes := make([]byte, size)
	for at := range bytes {
		bytes[at] = byte(at*7+at/255)%255 + 1
		if trap := m.SetByte(at, bytes[at]); trap != 0 {
			t.Fatalf("SetByte(%d) = %d in a memory of %d", at, trap, size)
		}
	}
	return m, bytes
}

// checkAll asks for every byte one by one, and for all of them at once.
func checkAll(t *testing.T, m *Memory, want []byte) {
	t.Helper()
	if m.Size() != len(want) {
		t.Fatalf("Size() = %d, want %d", m.Size(), len(want))
	}
	for at, b := range want {
		if got, trap := m.Byte(at); got != b || trap != 0 {
			t.Fatalf("Byte(%d) = %d, %d, want %d, 0", at, got, trap, b)
		}
	}
	if !slices.Equal(m.Bytes(0, len(want)), want) {
		t.Fatalf("Bytes(0, %d) are not those that Byte tells", len(want))
	}
}

// places are those around both ends of a memory, those that are in it when their highest bits are lost, and far ones.
func places(size int) []int {
	l := []int{
		math.MinInt, math.MinInt + 1, math.MinInt + 2, math.MinInt + 3, math.MinInt + 4, math.MinInt32, math.MinInt32 + 4, -1 << 32, -65536, -size, -size + 4,
		size / 2, size/2 + 1, 2 * size, 1 << 17, math.MaxInt32 - 3, math.MaxInt32, 1 << 32, 1<<32 + 4, 1<<32 + 5,
		math.MaxInt - 7, math.MaxInt - 4, math.MaxInt - 3, math.MaxInt - 2, math.MaxInt - 1, math.MaxInt,
	}
	for n := -9; n <= 9; n++ {
		l = append(l, n, size+n)
	}
	return l
}

// isOdd tells by the lowest two bits, which are those of two's complement below 0 too.
func isOdd(at int) bool { return at&3 != 0 }

// wordTrapOf is the chapter's list: a place that is no multiple of 4 first.
func wordTrapOf(size, at int) int {
	if isOdd(at) {
		return 3
	}
	for n := at; ; n++ {
		if n < 0 || n >= size {
			return 2
		}
		if n == at+3 {
			return 0
		}
	}
}

func byteTrapOf(size, at int) int {
	if at < 0 || at >= size {
		return 2
	}
	return 0
}

// wordOf is the word at a place that is there, by what its bytes are worth.
func wordOf(bytes []byte, at int) uint32 {
	return uint32(bytes[at]) + 256*uint32(bytes[at+1]) + 256*256*uint32(bytes[at+2]) + 256*256*256*uint32(bytes[at+3])
}

// bytesOf goes through all bytes that there are, and takes those that are asked for.
func bytesOf(bytes []byte, from, to int) []byte {
	var l []byte
	for at, b := range bytes {
		if from <= at && at < to {
			l = append(l, b)
		}
	}
	return l
}

func TestP4_1SizesThatMayBe(t *testing.T) {
	for size := 1024; size <= 65536; size += 4 {
		if m := made(t, size); m.Size() != size {
			t.Fatalf("New(%d) has Size() %d", size, m.Size())
		}
	}
}

func checkNoMemory(t *testing.T, size int) {
	t.Helper()
	m, err := New(size)
	if m != nil {
		t.Fatalf("New(%d) made a memory", size)
	}
	var code api.Code
	if !errors.As(err, &code) || code != api.ErrArg {
		t.Fatalf("New(%d): %v, want ErrArg", size, err)
	}
	if _, itself := err.(api.Code); !itself {
		t.Fatalf("New(%d): the error is not the Code itself", size)
	}
}

func TestP4_1R3SizesThatMayNotBe(t *testing.T) {
	for _, size := range []int{
		math.MinInt, math.MinInt + 1, math.MinInt32, -65536, -2048, -1024, -4, -1, 0, 1, 4, 16, 256, 1016,
		1020, 1021, 1022, 1023, 65537, 65538, 65539, 65540, 65544, 65536 + 1024, 131072, 1 << 20,
		math.MaxInt32, 1 << 32, 1<<32 + 1024, 1<<32 + 65536, math.MaxInt - 3, math.MaxInt,
	} {
		checkNoMemory(t, size)
	}
	for size := 0; size < 1024; size++ {
		checkNoMemory(t, size)
	}
	for size := 1024; size < 65536; size += 4 {
		for n := 1; n < 4; n++ {
			checkNoMemory(t, size+n)
		}
	}
}

func TestP4_1AllIsZeroAtFirst(t *testing.T) {
	for _, size := range sizes {
		m := made(t, size)
		checkAll(t, m, make([]byte, size))
		for at := 0; at < size; at += 4 {
			if w, trap := m.Word(at); w != 0 || trap != 0 {
				t.Fatalf("Word(%d) of a new memory = %#x, %d", at, w, trap)
			}
		}
	}
}

func TestP4_1SizeStays(t *testing.T) {
	m := made(t, 1024)
	for _, at := range places(1024) {
		m.SetWord(at, 0xFFFFFFFF)
		m.SetByte(at, 0xFF)
		m.Bytes(0, at)
		if m.Size() != 1024 {
			t.Fatalf("Size() = %d behind calls at %d", m.Size(), at)
		}
	}
}

// A memory that is made later begins with zeros, and shares nothing with one that was made earlier.
func TestP4_3MemoriesAreApart(t *testing.T) {
	first, want := filled(t, 1024)
	second := made(t, 1024)
	checkAll(t, second, make([]byte, 1024))
	second.SetWord(0, 0xFFFFFFFF)
	second.SetByte(1023, 0xFF)
	checkAll(t, first, want)
}

func TestP4_2Example(t *testing.T) {
	m := made(t, 1024)
	if trap := m.SetWord(4, 258); trap != 0 {
		t.Fatalf("SetWord(4, 258) = %d", trap)
	}
	want := make([]byte, 1024)
	want[4], want[5] = 2, 1
	if b, trap := m.Byte(5); b != 1 || trap != 0 {
		t.Errorf("Byte(5) = %d, %d, want 1, 0", b, trap)
	}
	checkAll(t, m, want)
}

func TestP4_2TheLowestByteOfAWordIsFirst(t *testing.T) {
	for _, size := range sizes {
		for _, at := range []int{0, 4, 8, size / 8 * 4, size - 8, size - 4} {
			m := made(t, size)
			if trap := m.SetWord(at, 0x84C3B2A1); trap != 0 {
				t.Fatalf("SetWord(%d) = %d in a memory of %d", at, trap, size)
			}
			want := make([]byte, size)
			copy(want[at:], []byte{0xA1, 0xB2, 0xC3, 0x84})
			checkAll(t, m, want)
			if w, trap := m.Word(at); w != 0x84C3B2A1 || trap != 0 {
				t.Fatalf("Word(%d) = %#x, %d", at, w, trap)
			}
		}
	}
}

func TestP4_2WordCases(t *testing.T) {
	m, bytes := filled(t, 1024)
	for _, c := range []struct{ at, trap int }{
		{0, 0}, {4, 0}, {512, 0}, {1016, 0}, {1020, 0},
		{1, api.TrapAlign}, {2, api.TrapAlign}, {3, api.TrapAlign}, {5, api.TrapAlign}, {511, api.TrapAlign}, {1017, api.TrapAlign}, {1018, api.TrapAlign}, {1019, api.TrapAlign},
		{1021, api.TrapAlign}, {1022, api.TrapAlign}, {1023, api.TrapAlign}, {1025, api.TrapAlign}, {1027, api.TrapAlign}, {5001, api.TrapAlign}, {math.MaxInt, api.TrapAlign}, {math.MaxInt - 1, api.TrapAlign},
		{-1, api.TrapAlign}, {-2, api.TrapAlign}, {-3, api.TrapAlign}, {-5, api.TrapAlign}, {-1023, api.TrapAlign}, {math.MinInt + 1, api.TrapAlign},
		{1024, api.TrapRange}, {1028, api.TrapRange}, {65536, api.TrapRange}, {1 << 32, api.TrapRange}, {math.MaxInt - 3, api.TrapRange},
		{-4, api.TrapRange}, {-8, api.TrapRange}, {-1024, api.TrapRange}, {-1 << 32, api.TrapRange}, {math.MinInt, api.TrapRange},
	} {
		var want uint32
		if c.trap == 0 {
			want = wordOf(bytes, c.at)
		}
		if w, trap := m.Word(c.at); w != want || trap != c.trap {
			t.Errorf("Word(%d) = %#x, %d, want %#x, %d", c.at, w, trap, want, c.trap)
		}
		if trap := m.SetWord(c.at, want); trap != c.trap {
			t.Errorf("SetWord(%d) = %d, want %d", c.at, trap, c.trap)
		}
	}
	checkAll(t, m, bytes)
}

func TestP4_2ByteCases(t *testing.T) {
	m, bytes := filled(t, 1024)
	for _, c := range []struct{ at, trap int }{
		{0, 0}, {1, 0}, {2, 0}, {3, 0}, {511, 0}, {1020, 0}, {1021, 0}, {1022, 0}, {1023, 0},
		{1024, api.TrapRange}, {1025, api.TrapRange}, {1027, api.TrapRange}, {1028, api.TrapRange}, {65535, api.TrapRange}, {1 << 32, api.TrapRange}, {math.MaxInt, api.TrapRange},
		{-1, api.TrapRange}, {-2, api.TrapRange}, {-4, api.TrapRange}, {-1024, api.TrapRange}, {-1 << 32, api.TrapRange}, {math.MinInt, api.TrapRange},
	} {
		var want byte
		if c.trap == 0 {
			want = bytes[c.at]
		}
		if b, trap := m.Byte(c.at); b != want || trap != c.trap {
			t.Errorf("Byte(%d) = %d, %d, want %d, %d", c.at, b, trap, want, c.trap)
		}
		if trap := m.SetByte(c.at, want); trap != c.trap {
			t.Errorf("SetByte(%d) = %d, want %d", c.at, trap, c.trap)
		}
	}
	checkAll(t, m, bytes)
}

// Every byte's value, and words with each bit: nothing of what is set is cut off.
func TestP4_2EachValue(t *testing.T) {
	m := made(t, 1024)
	for n := range 256 {
		m.SetByte(n, byte(n))
		if b, trap := m.Byte(n); b != byte(n) || trap != 0 {
			t.Fatalf("Byte(%d) = %d, %d", n, b, trap)
		}
	}
	for n := range 32 {
		for _, w := range []uint32{1 << n, ^uint32(1 << n), 1<<n - 1, 0, 0xFFFFFFFF} {
			m.SetWord(4*n, w)
			if got, trap := m.Word(4 * n); got != w || trap != 0 {
				t.Fatalf("Word(%d) = %#x, %d, want %#x, 0", 4*n, got, trap, w)
			}
		}
	}
}

func TestP4_2R3WithATrapNothingIsToldOrDone(t *testing.T) {
	for _, size := range sizes {
		m, bytes := filled(t, size)
		trapped := 0
		for _, at := range places(size) {
			if want := wordTrapOf(size, at); want != 0 {
				trapped++
				if w, trap := m.Word(at); w != 0 || trap != want {
					t.Errorf("Word(%d) = %#x, %d in a memory of %d, want 0, %d", at, w, trap, size, want)
				}
				if trap := m.SetWord(at, 0); trap != want {
					t.Errorf("SetWord(%d) = %d in a memory of %d, want %d", at, trap, size, want)
				}
			}
			if want := byteTrapOf(size, at); want != 0 {
				trapped++
				if b, trap := m.Byte(at); b != 0 || trap != want {
					t.Errorf("Byte(%d) = %d, %d in a memory of %d, want 0, %d", at, b, trap, size, want)
				}
				if trap := m.SetByte(at, 0); trap != want {
					t.Errorf("SetByte(%d) = %d in a memory of %d, want %d", at, trap, size, want)
				}
			}
		}
		if trapped == 0 {
			t.Errorf("no place traps in a memory of %d", size)
		}
		checkAll(t, m, bytes)
	}
}

func TestP4_2EveryPlace(t *testing.T) {
	for _, size := range []int{1024, 65536} {
		m, bytes := filled(t, size)
		for at := -20; at < size+20; at++ {
			wantTrap := wordTrapOf(size, at)
			var want uint32
			if wantTrap == 0 {
				want = wordOf(bytes, at)
			}
			if w, trap := m.Word(at); w != want || trap != wantTrap {
				t.Fatalf("Word(%d) = %#x, %d, want %#x, %d", at, w, trap, want, wantTrap)
			}
			if _, trap := m.Byte(at); trap != byteTrapOf(size, at) {
				t.Fatalf("Byte(%d) trapped with %d", at, trap)
			}
		}
	}
}

func TestP4_2BytesCases(t *testing.T) {
	m, bytes := filled(t, 1024)
	for _, c := range []struct {
		from, to int
		want     []byte
	}{
		{0, 1, bytes[:1]}, {0, 4, bytes[:4]}, {5, 9, bytes[5:9]}, {1, 2, bytes[1:2]}, {0, 1024, bytes}, {1, 1023, bytes[1:1023]}, {1023, 1024, bytes[1023:]},
		{-1, 3, bytes[:3]}, {-1024, 3, bytes[:3]}, {math.MinInt, 1, bytes[:1]}, {math.MinInt, math.MaxInt, bytes}, {-1, 1025, bytes}, {-4, 1024, bytes},
		{1020, 1025, bytes[1020:]}, {1020, 65536, bytes[1020:]}, {1023, math.MaxInt, bytes[1023:]}, {0, math.MaxInt, bytes},
		{0, 0, nil}, {5, 5, nil}, {1023, 1023, nil}, {1024, 1024, nil}, {9, 5, nil}, {1, 0, nil}, {1024, 0, nil}, {math.MaxInt, math.MinInt, nil}, {3, math.MinInt, nil}, {math.MaxInt, 3, nil},
		{1024, 1025, nil}, {1024, math.MaxInt, nil}, {2000, 3000, nil}, {3000, 2000, nil}, {math.MaxInt - 1, math.MaxInt, nil}, {math.MaxInt, math.MaxInt, nil},
		{-5, -1, nil}, {-5, 0, nil}, {-1, -5, nil}, {-1, 0, nil}, {math.MinInt, math.MinInt, nil}, {math.MinInt, -1, nil}, {math.MinInt, 0, nil},
	} {
		if got := m.Bytes(c.from, c.to); !slices.Equal(got, c.want) {
			t.Errorf("Bytes(%d, %d) = %v, want %v", c.from, c.to, got, c.want)
		}
	}
	checkAll(t, m, bytes)
}

func TestP4_2BytesAroundAllEdges(t *testing.T) {
	m, bytes := filled(t, 1028)
	for _, from := range places(1028) {
		for _, to := range places(1028) {
			if got, want := m.Bytes(from, to), bytesOf(bytes, from, to); !slices.Equal(got, want) {
				t.Fatalf("Bytes(%d, %d) has %d bytes, want %d", from, to, len(got), len(want))
			}
		}
	}
	checkAll(t, m, bytes)
}

func TestR2BytesAreNewMemory(t *testing.T) {
	m, bytes := filled(t, 1024)
	for _, c := range []struct{ from, to int }{{0, 1024}, {math.MinInt, math.MaxInt}, {3, 9}, {0, 4}, {1023, 1024}} {
		first := m.Bytes(c.from, c.to)
		second := m.Bytes(c.from, c.to)
		kept := slices.Clone(second)
		// What is appended would be written behind the last byte, if the answer were a piece of the memory.
		clear(first[:cap(first)])
		_ = append(first, 0)
		if !slices.Equal(second, kept) {
			t.Errorf("two answers of Bytes(%d, %d) share memory", c.from, c.to)
		}
		checkAll(t, m, bytes)
	}
}

func TestR2BytesStayAsTheyWere(t *testing.T) {
	m, bytes := filled(t, 1024)
	told := m.Bytes(0, 1024)
	for at := 0; at < 1024; at += 4 {
		m.SetWord(at, 0)
	}
	m.SetByte(0, 77)
	if !slices.Equal(told, bytes) {
		t.Error("what Bytes told was changed by what was set later")
	}
}

// Each single place: what was set is there, and no other byte is changed.
func TestP4_3AllElseStays(t *testing.T) {
	for at := range 1024 {
		m, want := filled(t, 1024)
		want[at] ^= 0xFF
		m.SetByte(at, want[at])
		if !slices.Equal(m.Bytes(0, 1024), want) {
			t.Fatalf("SetByte(%d) changed something else", at)
		}
		if isOdd(at) {
			continue
		}
		for n := range 4 {
			want[at+n] = ^want[at+n] + byte(n)
		}
		m.SetWord(at, wordOf(want, at))
		if !slices.Equal(m.Bytes(0, 1024), want) {
			t.Fatalf("SetWord(%d) changed something else", at)
		}
	}
}

// rolled are numbers that look like chance, always the same ones.
type rolled uint64

func (r *rolled) next(below int) int {
	*r = *r*6364136223846793005 + 1442695040888963407
	return int(uint64(*r) >> 33 % uint64(below))
}

// Many calls, one after the other, against a list of bytes.
func TestP4_3LongRuns(t *testing.T) {
	for _, size := range sizes {
		m := made(t, size)
		want := make([]byte, size)
		r := rolled(size)
		for range 20000 {
			at := r.next(size+40) - 20
			w := uint32(r.next(1<<16))<<16 | uint32(r.next(1<<16))
			if r.next(2) == 0 {
				wantTrap := wordTrapOf(size, at)
				if trap := m.SetWord(at, w); trap != wantTrap {
					t.Fatalf("SetWord(%d) = %d, want %d", at, trap, wantTrap)
				}
				if wantTrap == 0 {
					want[at], want[at+1], want[at+2], want[at+3] = byte(w), byte(w>>8), byte(w>>16), byte(w>>24)
				}
				continue
			}
			wantTrap := byteTrapOf(size, at)
			if trap := m.SetByte(at, byte(w)); trap != wantTrap {
				t.Fatalf("SetByte(%d) = %d, want %d", at, trap, wantTrap)
			}
			if wantTrap == 0 {
				want[at] = byte(w)
			}
		}
		checkAll(t, m, want)
		for at := 0; at < size; at += 4 {
			if w, trap := m.Word(at); w != wordOf(want, at) || trap != 0 {
				t.Fatalf("Word(%d) = %#x, %d, want %#x", at, w, trap, wordOf(want, at))
			}
		}
	}
}

func TestP1NoneOfTheCallsPanics(t *testing.T) {
	for _, size := range sizes {
		m := made(t, size)
		for _, at := range places(size) {
			New(at)
			m.Word(at)
			m.SetWord(at, 0xFFFFFFFF)
			m.Byte(at)
			m.SetByte(at, 0xFF)
			for _, to := range places(size) {
				m.Bytes(at, to)
			}
		}
		m.Size()
	}
}
