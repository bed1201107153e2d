package bio

import (
	"bytes"
	"fmt"
	"math"
	"math/rand"
	"slices"
	"strings"
	"sync"
	"testing"
)

// odd are numbers of bytes that no number has.
var odd = []int{
	0, -1, -2, -3, -4, -5, -8, -255, -256, -1 << 31, -1<<31 - 1, math.MinInt, math.MinInt + 1, math.MinInt + 4,
	5, 6, 7, 8, 16, 32, 255, 256, 257, 260, 65537, 1<<31 - 1, 1 << 31, 1 << 32, 1<<32 + 1, 1<<32 + 4, math.MaxInt - 3, math.MaxInt,
}

// values are numbers whose bytes differ, and those at the edges.
var values = []uint32{
	0, 1, 2, 127, 128, 129, 254, 255, 256, 257, 258, 511, 512, 32767, 32768, 65280, 65534, 65535, 65536, 65537, 66051,
	1<<23 - 1, 1 << 23, 16711680, 1<<24 - 1, 1 << 24, 1<<24 + 1, 16909060, 67305985, 1<<31 - 1, 1 << 31, 1<<31 + 1, 0xFF000000, 0x80FF7F01, 4294967294, 4294967295,
}

// lengths are those of texts, up to more than a text has, and such as have the same lowest byte.
var lengths = []int{0, 1, 2, 3, 4, 127, 128, 129, 200, 253, 254, 255, 256, 257, 258, 300, 510, 511, 512, 513, 1000, 65535, 65536, 65537, 1 << 20}

// some are bytes that differ with their number and with where they begin.
func some(count, first int) []byte {
	b := make([]byte, count)
	for i := range b {
		b[i] = byte(first + i*7 + i/256)
	}
	return b
}

// plainNumber is the chapter's words by division: so many bytes, the lowest first.
func plainNumber(n uint32, width int) []byte {
	if width < 1 || width > 4 {
		return nil
	}
	var b []byte
	for rest := uint64(n); len(b) < width; rest /= 256 {
		b = append(b, byte(rest%256))
	}
	return b
}

// plainText is the chapter's words: how many bytes, at most 255, and these.
func plainText(s string) []byte {
	var b []byte
	for i := 0; i < len(s) && i < 255; i++ {
		b = append(b, s[i])
	}
	return slices.Concat([]byte{byte(len(b))}, b)
}

// plainReader is the chapter's words by places: bytes that don't change, and how far they are read.
type plainReader struct {
	all   string
	at    int
	short bool
}

func (p *plainReader) left() int {
	if p.short {
		return 0
	}
	return len(p.all) - p.at
}

func (p *plainReader) number(width int) uint32 {
	if width < 1 || width > 4 {
		return 0
	}
	if p.left() < width {
		p.short = true
		return 0
	}
	n := uint64(0)
	for i := width - 1; i >= 0; i-- {
		n = n*256 + uint64(p.all[p.at+i])
	}
	p.at += width
	return uint32(n)
}

func (p *plainReader) text() string {
	if p.left() < 1 {
		p.short = true
		return ""
	}
	count := int(p.all[p.at])
	if p.left() < 1+count {
		p.short = true
		return ""
	}
	s := p.all[p.at+1 : p.at+1+count]
	p.at += 1 + count
	return s
}

func checkState(t *testing.T, r *Reader, left int, short bool) {
	t.Helper()
	if r.Left() != left || r.Short() != short {
		t.Fatalf("Left, Short = %d, %v, want %d, %v", r.Left(), r.Short(), left, short)
	}
	if r.Left() != left || r.Short() != short {
		t.Fatal("asked again, it tells something else")
	}
}

func checkNumber(t *testing.T, r *Reader, width int, want uint32, left int) {
	t.Helper()
	if n := r.Number(width); n != want {
		t.Fatalf("Number(%d) = %d, want %d", width, n, want)
	}
	checkState(t, r, left, false)
}

func checkText(t *testing.T, r *Reader, want string, left int) {
	t.Helper()
	if s := r.Text(); s != want {
		t.Fatalf("Text() has %d bytes, %.20q, want %d, %.20q", len(s), s, len(want), want)
	}
	checkState(t, r, left, false)
}

// checkShort asks for all that a reader which is short may tell, in many orders.
func checkShort(t *testing.T, r *Reader) {
	t.Helper()
	checkState(t, r, 0, true)
	for _, width := range []int{1, 0, 4, -1, 2, 5, 3, 1, math.MinInt, math.MaxInt} {
		if n := r.Number(width); n != 0 {
			t.Fatalf("short, but Number(%d) = %d", width, n)
		}
		checkState(t, r, 0, true)
		if s := r.Text(); s != "" {
			t.Fatalf("short, but Text() = %.20q", s)
		}
		checkState(t, r, 0, true)
	}
}

func checkBytes(t *testing.T, got, want []byte) {
	t.Helper()
	if !bytes.Equal(got, want) {
		t.Fatalf("%d bytes, % x, want %d, % x", len(got), got[:min(len(got), 30)], len(want), want[:min(len(want), 30)])
	}
}

func TestP11_1Example(t *testing.T) {
	checkBytes(t, Put(nil, 258, 2), []byte{2, 1})
}

func TestP11_1NumbersWrittenOut(t *testing.T) {
	for _, c := range []struct {
		n     uint32
		width int
		want  []byte
	}{
		{0, 1, []byte{0}}, {0, 2, []byte{0, 0}}, {0, 3, []byte{0, 0, 0}}, {0, 4, []byte{0, 0, 0, 0}},
		{1, 1, []byte{1}}, {1, 4, []byte{1, 0, 0, 0}},
		{255, 1, []byte{255}}, {255, 2, []byte{255, 0}}, {256, 1, []byte{0}}, {256, 2, []byte{0, 1}}, {257, 1, []byte{1}}, {258, 1, []byte{2}},
		{65535, 2, []byte{255, 255}}, {65536, 2, []byte{0, 0}}, {65536, 3, []byte{0, 0, 1}}, {66051, 3, []byte{3, 2, 1}}, {66051, 2, []byte{3, 2}},
		{16909060, 4, []byte{4, 3, 2, 1}}, {16909060, 3, []byte{4, 3, 2}}, {16909060, 2, []byte{4, 3}}, {16909060, 1, []byte{4}},
		{1 << 24, 3, []byte{0, 0, 0}}, {1 << 31, 4, []byte{0, 0, 0, 128}},
		{4294967295, 1, []byte{255}}, {4294967295, 2, []byte{255, 255}}, {4294967295, 3, []byte{255, 255, 255}}, {4294967295, 4, []byte{255, 255, 255, 255}},
	} {
		checkBytes(t, Put(nil, c.n, c.width), c.want)
	}
}

func TestP11_1NumbersAgainstPlainWords(t *testing.T) {
	for width := -3; width <= 8; width++ {
		for _, n := range values {
			checkBytes(t, Put(nil, n, width), plainNumber(n, width))
			checkBytes(t, Put([]byte{9, 8}, n, width), slices.Concat([]byte{9, 8}, plainNumber(n, width)))
		}
		for n := range uint32(70000) {
			checkBytes(t, Put(nil, n*61357, width), plainNumber(n*61357, width))
		}
	}
}

func TestP11_1OddNumbersOfBytesPutNone(t *testing.T) {
	for _, width := range odd {
		for _, n := range values {
			if got := Put(nil, n, width); len(got) != 0 {
				t.Fatalf("Put(nil, %d, %d) = % x", n, width, got)
			}
			if got := Put([]byte{}, n, width); len(got) != 0 {
				t.Fatalf("Put of %d in %d bytes = % x", n, width, got)
			}
			checkBytes(t, Put([]byte{1, 2, 3}, n, width), []byte{1, 2, 3})
		}
	}
}

func TestP11_1TextsWrittenOut(t *testing.T) {
	for s, want := range map[string][]byte{
		"":             {0},
		"a":            {1, 97},
		"List":         {4, 76, 105, 115, 116},
		"\x00":         {1, 0},
		"\xFF\x00\x80": {3, 255, 0, 128},
		"é":            {2, 195, 169},
		"\xE4\xB8":     {2, 228, 184}, // a sign whose end is missing
		"\x01a":        {2, 1, 97},
	} {
		checkBytes(t, PutText(nil, s), want)
	}
}

func TestP11_1TextsOfAllLengths(t *testing.T) {
	for count := range 600 {
		s := string(some(count, count))
		got := PutText(nil, s)
		checkBytes(t, got, plainText(s))
		if count <= 255 && len(got) != count+1 || count >= 255 && len(got) != 256 {
			t.Fatalf("a text of %d bytes is %d bytes", count, len(got))
		}
	}
	for _, count := range lengths {
		s := string(some(count, 5))
		checkBytes(t, PutText(nil, s), plainText(s))
		checkBytes(t, PutText([]byte{7}, s), slices.Concat([]byte{7}, plainText(s)))
	}
}

// What is cut off is what is behind 255 bytes, be it in the middle of a sign.
func TestP11_1TextsAreCutOffByBytes(t *testing.T) {
	for _, sign := range []string{"é", "中", "\U0001F600", "\xFF", "a"} {
		for ahead := range 5 {
			s := strings.Repeat("x", ahead) + strings.Repeat(sign, 300)
			got := PutText(nil, s)
			if len(got) != 256 || got[0] != 255 || string(got[1:]) != s[:255] {
				t.Fatalf("%d bytes, how many %d", len(got), got[0])
			}
		}
	}
}

func TestP11_1EachByteInTexts(t *testing.T) {
	for n := range 256 {
		for _, count := range []int{1, 2, 254, 255, 256} {
			s := strings.Repeat(string([]byte{byte(n)}), count)
			checkBytes(t, PutText(nil, s), plainText(s))
		}
	}
}

// What is in out stands ahead of what is put, however much room is behind it.
func TestP11_1OutStandsAhead(t *testing.T) {
	for _, count := range []int{0, 1, 2, 3, 7, 8, 255, 256, 4000, 70000} {
		for _, room := range []int{0, 1, 2, 3, 4, 5, 300} {
			for width := -1; width <= 6; width++ {
				out := append(make([]byte, 0, count+room), some(count, 3)...)
				checkBytes(t, Put(out, 0x04030201, width), slices.Concat(some(count, 3), plainNumber(0x04030201, width)))
			}
			for _, length := range []int{0, 1, 2, 254, 255, 256, 1000} {
				out := append(make([]byte, 0, count+room), some(count, 3)...)
				s := string(some(length, 9))
				checkBytes(t, PutText(out, s), slices.Concat(some(count, 3), plainText(s)))
			}
		}
	}
}

func TestP11_1NilAndEmptyOut(t *testing.T) {
	for _, out := range [][]byte{nil, {}, make([]byte, 0, 1), make([]byte, 0, 9), some(9, 9)[4:4], some(9, 9)[4:4:4]} {
		checkBytes(t, Put(out, 513, 2), []byte{1, 2})
		checkBytes(t, PutText(out, "ab"), []byte{2, 97, 98})
		checkBytes(t, PutText(out, ""), []byte{0})
		checkBytes(t, Put(out, 513, 0), nil)
	}
}

// Both write behind out alone: its own bytes stay, also where others see them.
func TestP11_1BytesOfOutAreNotChanged(t *testing.T) {
	whole := some(2000, 1)
	out := whole[3:10]
	for width := -1; width <= 5; width++ {
		Put(out, 0xFFFFFFFF, width)
	}
	PutText(out, "text")
	checkBytes(t, whole[:10], some(10, 1))
	cut := whole[300:305:305] // no room: what is behind is of others
	Put(cut, 0xFFFFFFFF, 4)
	PutText(cut, "text")
	checkBytes(t, whole[300:], some(2000, 1)[300:])
}

// Nothing is kept from one call to the next.
func TestP11_1PutsHaveNothingInCommon(t *testing.T) {
	one, two := Put(nil, 1, 4), Put(nil, 1, 4)
	clear(one[:cap(one)])
	checkBytes(t, two, []byte{1, 0, 0, 0})
	checkBytes(t, Put(nil, 1, 4), []byte{1, 0, 0, 0})
	first, second := PutText(nil, "abc"), PutText(nil, "abc")
	clear(first[:cap(first)])
	checkBytes(t, second, []byte("\x03abc"))
	checkBytes(t, PutText(nil, "abc"), []byte("\x03abc"))
}

func TestP11_2ReadersOfNoBytes(t *testing.T) {
	for _, none := range [][]byte{nil, {}, make([]byte, 0, 9), some(9, 1)[4:4]} {
		checkState(t, New(none), 0, false)
		for width := 1; width <= 4; width++ {
			r := New(none)
			if n := r.Number(width); n != 0 {
				t.Fatalf("Number(%d) of no bytes = %d", width, n)
			}
			checkShort(t, r)
		}
		r := New(none)
		if s := r.Text(); s != "" {
			t.Fatalf("Text() of no bytes = %q", s)
		}
		checkShort(t, r)
		r = New(none)
		for _, width := range odd {
			checkNumber(t, r, width, 0, 0)
		}
	}
}

func TestP11_2NumbersWrittenOut(t *testing.T) {
	r := New([]byte{2, 1, 255, 0, 0, 128, 1, 2, 3, 255, 255, 255, 255, 7})
	checkState(t, r, 14, false)
	checkNumber(t, r, 2, 258, 12)
	checkNumber(t, r, 1, 255, 11)
	checkNumber(t, r, 3, 1<<23, 8)
	checkNumber(t, r, 3, 3*65536+2*256+1, 5)
	checkNumber(t, r, 4, 4294967295, 1)
	checkNumber(t, r, 1, 7, 0)
	if n := r.Number(1); n != 0 {
		t.Fatalf("behind the end there is %d", n)
	}
	checkShort(t, r)
}

func TestP11_2TextsWrittenOut(t *testing.T) {
	r := New([]byte("\x00\x01a\x04List\x03\xFF\x00\x80\x00"))
	checkState(t, r, 13, false)
	checkText(t, r, "", 12)
	checkText(t, r, "a", 10)
	checkText(t, r, "List", 5)
	checkText(t, r, "\xFF\x00\x80", 1)
	checkText(t, r, "", 0)
	if s := r.Text(); s != "" {
		t.Fatalf("behind the end there is %q", s)
	}
	checkShort(t, r)
}

func TestP11_2EachByteAsANumber(t *testing.T) {
	for n := range 256 {
		b := byte(n)
		checkNumber(t, New([]byte{b}), 1, uint32(n), 0)
		checkNumber(t, New([]byte{b, 1, 2, 3}), 4, uint32(n)+256+2*65536+3<<24, 0)
		checkNumber(t, New([]byte{1, b, 2, 3}), 4, 1+uint32(n)<<8+2<<16+3<<24, 0)
		checkNumber(t, New([]byte{1, 2, b, 3}), 4, 1+2<<8+uint32(n)<<16+3<<24, 0)
		checkNumber(t, New([]byte{1, 2, 3, b}), 4, 1+2<<8+3<<16+uint32(n)<<24, 0)
	}
}

// Where the bytes don't suffice by one or more, by none, and where some are left.
func TestP11_2NumbersAtTheEnd(t *testing.T) {
	for width := 1; width <= 4; width++ {
		for count := range 9 {
			b := bytes.Repeat([]byte{1}, count)
			r := New(b)
			if count >= width {
				checkNumber(t, r, width, 0x01010101>>(8*(4-width)), count-width)
				continue
			}
			if n := r.Number(width); n != 0 {
				t.Fatalf("Number(%d) of %d bytes = %d", width, count, n)
			}
			checkShort(t, r)
		}
	}
}

// What was read ahead doesn't matter: numbers lack bytes at the end of longer ones, too.
func TestP11_2NumbersAtTheEndOfMore(t *testing.T) {
	for ahead := range 20 {
		for count := range 5 {
			for width := 1; width <= 4; width++ {
				r := New(some(ahead+count, 0x81))
				for i := range ahead {
					checkNumber(t, r, 1, uint32(some(ahead+count, 0x81)[i]), ahead+count-1-i)
				}
				p := plainReader{all: string(some(ahead+count, 0x81)), at: ahead}
				if n, want := r.Number(width), p.number(width); n != want {
					t.Fatalf("Number(%d) of %d bytes = %d, want %d", width, count, n, want)
				}
				if r.Short() != (count < width) {
					t.Fatalf("Short() = %v behind Number(%d) of %d bytes", r.Short(), width, count)
				}
				checkState(t, r, p.left(), p.short)
			}
		}
	}
}

func TestP11_2OddNumbersOfBytesReadNothing(t *testing.T) {
	r := New([]byte{5, 6, 1, 97})
	for _, width := range odd {
		checkNumber(t, r, width, 0, 4)
	}
	checkNumber(t, r, 2, 6*256+5, 2)
	for _, width := range odd {
		checkNumber(t, r, width, 0, 2)
	}
	checkText(t, r, "a", 0)
	for _, width := range odd {
		checkNumber(t, r, width, 0, 0)
	}
	r.Number(1)
	for _, width := range odd {
		if n := r.Number(width); n != 0 {
			t.Fatalf("Number(%d) = %d", width, n)
		}
		checkState(t, r, 0, true)
	}
}

// For each number that tells how many, and each number of bytes behind it near to that.
func TestP11_2TextsAtTheEnd(t *testing.T) {
	for count := range 256 {
		for _, there := range []int{0, 1, count - 2, count - 1, count, count + 1, count + 2, 254, 255, 256, 257} {
			if there < 0 {
				continue
			}
			r := New(append([]byte{byte(count)}, some(there, count)...))
			if there >= count {
				checkText(t, r, string(some(there, count)[:count]), there-count)
				continue
			}
			if s := r.Text(); s != "" {
				t.Fatalf("a text of %d bytes, %d of them there, is %.20q", count, there, s)
			}
			checkShort(t, r)
		}
	}
}

// A text of no bytes is all there where its byte is the last one; it isn't at the end itself.
func TestP11_2TextOfNoBytesAtTheEnd(t *testing.T) {
	r := New([]byte{9, 0})
	checkNumber(t, r, 1, 9, 1)
	checkText(t, r, "", 0)
	if s := r.Text(); s != "" {
		t.Fatalf("Text() = %q", s)
	}
	checkShort(t, r)
}

// What is short stays short where numbers of fewer bytes would have been there.
func TestP11_2ShortStaysShort(t *testing.T) {
	for _, b := range [][]byte{{1}, {1, 97}, {2, 97}, {0, 0, 0}, {255, 1, 2}, {3, 1, 97}} {
		r := New(b)
		if n := r.Number(4); n != 0 {
			t.Fatalf("Number(4) of %d bytes = %d", len(b), n)
		}
		checkShort(t, r)
	}
	for _, b := range [][]byte{{1}, {2, 97}, {3, 1, 97}, {255, 0, 0, 0, 0, 0}, append([]byte{255}, some(254, 1)...)} {
		r := New(b)
		if s := r.Text(); s != "" {
			t.Fatalf("Text() of %d bytes = %q", len(b), s)
		}
		checkShort(t, r)
	}
}

func TestP11_2TwoReadersHaveNothingInCommon(t *testing.T) {
	b := []byte("\x02\x01\x03abc\x07")
	one, two := New(b), New(b)
	checkNumber(t, one, 2, 258, 5)
	checkState(t, two, 7, false)
	checkText(t, one, "abc", 1)
	checkNumber(t, two, 1, 2, 6)
	if one.Number(2) != 0 {
		t.Fatal("a number of two bytes in one")
	}
	checkShort(t, one)
	checkState(t, two, 6, false)
	checkText(t, two, "\x03", 4)
	checkText(t, New(b), "\x01\x03", 4)
	checkNumber(t, two, 4, 97+98<<8+99<<16+7<<24, 0)
	checkShort(t, one)
	checkState(t, New(b), 7, false)
}

// The reader keeps the bytes: it reads what they are when it reads.
func TestP11_2BytesAreKept(t *testing.T) {
	b := []byte{1, 2, 3, 4}
	r := New(b)
	checkNumber(t, r, 1, 1, 3)
	b[0], b[1] = 77, 99
	checkNumber(t, r, 1, 99, 2)
}

// What was told of a text stays as it was told, whatever becomes of the bytes.
func TestP11_2R2TextsAreNewMemory(t *testing.T) {
	b := []byte("\x03abc\x02de")
	r := New(b)
	first, second := r.Text(), r.Text()
	clear(b)
	if first != "abc" || second != "de" {
		t.Fatalf("%q and %q, want abc and de", first, second)
	}
}

func TestP11_2R2BytesAreNotChanged(t *testing.T) {
	for seed := range int64(300) {
		random := rand.New(rand.NewSource(seed))
		whole := make([]byte, 600)
		random.Read(whole)
		was := bytes.Clone(whole)
		r := New(whole[100 : random.Intn(300)+100])
		for range 100 {
			if random.Intn(3) == 0 {
				r.Text()
			} else {
				r.Number(random.Intn(7) - 1)
			}
			r.Left()
			r.Short()
		}
		checkBytes(t, whole, was)
	}
}

// Bytes behind the last one aren't read, though there is room.
func TestP11_2RoomIsNotRead(t *testing.T) {
	whole := []byte{3, 1, 2, 3, 4, 5}
	r := New(whole[:3])
	if s := r.Text(); s != "" {
		t.Fatalf("Text() = %q", s)
	}
	checkShort(t, r)
	r = New(whole[:3])
	if n := r.Number(4); n != 0 {
		t.Fatalf("Number(4) = %d", n)
	}
	checkShort(t, r)
}

func TestP11_3NumbersAreReadAsTheyWere(t *testing.T) {
	for width := 1; width <= 4; width++ {
		for _, n := range values {
			cut := uint32(uint64(n) % (1 << (8 * width)))
			checkNumber(t, New(Put(nil, n, width)), width, cut, 0)
			checkNumber(t, New(PutText(Put(nil, n, width), "behind")), width, cut, 7)
		}
	}
}

func TestP11_3TextsAreReadAsTheyWere(t *testing.T) {
	for count := range 300 {
		s := string(some(count, count))
		checkText(t, New(PutText(nil, s)), s[:min(count, 255)], 0)
		checkText(t, New(Put(PutText(nil, s), 1, 4)), s[:min(count, 255)], 4)
	}
	for _, count := range lengths {
		s := string(some(count, 8))
		r := New(PutText(PutText(nil, s), "next"))
		checkText(t, r, s[:min(count, 255)], 5)
		checkText(t, r, "next", 0)
	}
}

// item is a number, or a text.
type item struct {
	isText bool
	text   string
	n      uint32
	width  int
}

func anyItem(random *rand.Rand) item {
	if random.Intn(2) == 0 {
		return item{width: random.Intn(6), n: anyValue(random)}
	}
	b := make([]byte, anyLength(random))
	random.Read(b)
	return item{isText: true, text: string(b)}
}

func anyValue(random *rand.Rand) uint32 {
	if random.Intn(2) == 0 {
		return values[random.Intn(len(values))]
	}
	return random.Uint32()
}

func anyLength(random *rand.Rand) int {
	if random.Intn(4) == 0 {
		return random.Intn(300)
	}
	return random.Intn(5)
}

// Numbers and texts in any order: read in the same order they are the same, and then nothing is left.
func TestP11_3AnyItemsAreReadAsTheyWere(t *testing.T) {
	for seed := range int64(2000) {
		random := rand.New(rand.NewSource(seed))
		var out, want []byte
		items := make([]item, random.Intn(30))
		for i := range items {
			items[i] = anyItem(random)
			out, want = putItem(out, items[i]), slices.Concat(want, plainItem(items[i]))
			checkBytes(t, out, want)
		}
		r := New(out)
		left := len(out)
		for _, x := range items {
			left -= len(plainItem(x))
			checkItem(t, r, x, left)
		}
		checkState(t, r, 0, false)
		if s := r.Text(); s != "" {
			t.Fatalf("behind all there is %q", s)
		}
		checkShort(t, r)
	}
}

func putItem(out []byte, x item) []byte {
	if x.isText {
		return PutText(out, x.text)
	}
	return Put(out, x.n, x.width)
}

func plainItem(x item) []byte {
	if x.isText {
		return plainText(x.text)
	}
	return plainNumber(x.n, x.width)
}

func checkItem(t *testing.T, r *Reader, x item, left int) {
	t.Helper()
	switch {
	case x.isText:
		checkText(t, r, x.text[:min(len(x.text), 255)], left)
	case x.width < 1 || x.width > 4:
		checkNumber(t, r, x.width, 0, left)
	default:
		checkNumber(t, r, x.width, uint32(uint64(x.n)%(1<<(8*x.width))), left)
	}
}

// aText asks step for a text; all else asks for a number of so many bytes.
const aText = 99

// step asks the reader and the plain one the same.
func step(t *testing.T, r *Reader, p *plainReader, asked int) {
	t.Helper()
	if asked == aText {
		if s, want := r.Text(), p.text(); s != want {
			t.Fatalf("Text() of % x at %d = %q, want %q", p.all, p.at, s, want)
		}
	} else if n, want := r.Number(asked), p.number(asked); n != want {
		t.Fatalf("Number(%d) of % x at %d = %d, want %d", asked, p.all, p.at, n, want)
	}
	checkState(t, r, p.left(), p.short)
}

// All scripts of up to five steps, over bytes that end at each place.
func TestP11_2AllShortScriptsAgainstPlainWords(t *testing.T) {
	full := []byte{1, 0, 2, 97, 0, 3, 255, 1, 1, 4, 0}
	asks := []int{aText, 0, 1, 2, 3, 4, 5}
	scripts := 1
	for range 5 {
		scripts *= len(asks)
	}
	for from := range 4 {
		for end := from; end <= len(full); end++ {
			b := full[from:end]
			for script := range scripts {
				r, p := New(b), &plainReader{all: string(b)}
				for rest := script; rest > 0; rest /= len(asks) {
					step(t, r, p, asks[rest%len(asks)])
				}
			}
		}
	}
}

// All bytes of up to five small numbers, read by some scripts.
func TestP11_2AllShortBytesAgainstPlainWords(t *testing.T) {
	scripts := [][]int{
		{aText, aText, aText, aText, aText, aText}, {1, aText, aText, aText}, {2, aText, 1, aText}, {aText, 2, aText, 1},
		{3, aText, aText}, {4, aText, 1}, {aText, 4, 1}, {0, aText, 5, 1, 1, 1},
	}
	for length := range 6 {
		many := int(math.Pow(4, float64(length)))
		for n := range many {
			b := make([]byte, length)
			for i, rest := 0, n; i < length; i, rest = i+1, rest/4 {
				b[i] = byte(rest % 4)
			}
			for _, script := range scripts {
				r, p := New(b), &plainReader{all: string(b)}
				for _, asked := range script {
					step(t, r, p, asked)
				}
			}
		}
	}
}

func TestP11_2AnyScriptsAgainstPlainWords(t *testing.T) {
	for seed := range int64(5000) {
		random := rand.New(rand.NewSource(seed))
		b := make([]byte, random.Intn(600))
		for i := range b {
			if random.Intn(3) == 0 {
				b[i] = byte(random.Intn(256))
			} else {
				b[i] = byte(random.Intn(6))
			}
		}
		r, p := New(b), &plainReader{all: string(b)}
		checkState(t, r, len(b), false)
		for range 80 {
			switch random.Intn(8) {
			case 0, 1, 2:
				step(t, r, p, aText)
			case 3:
				step(t, r, p, odd[random.Intn(len(odd))])
			default:
				step(t, r, p, random.Intn(6))
			}
		}
	}
}

// Readers that take turns, over the same bytes: each is as if it were alone.
func TestP11_2ManyReadersInTurn(t *testing.T) {
	for seed := range int64(300) {
		random := rand.New(rand.NewSource(seed))
		b := some(random.Intn(60), random.Intn(6))
		readers, plains := make([]*Reader, 6), make([]*plainReader, 6)
		for i := range readers {
			readers[i], plains[i] = New(b), &plainReader{all: string(b)}
		}
		for range 60 {
			i := random.Intn(len(readers))
			step(t, readers[i], plains[i], []int{aText, 0, 1, 2, 3, 4, 5}[random.Intn(7)])
			for k := range readers {
				checkState(t, readers[k], plains[k].left(), plains[k].short)
			}
		}
	}
}

// Readers that work at the same time may read the same bytes.
func TestP11_2ReadersAtTheSameTime(t *testing.T) {
	b := some(2000, 3)
	want := allOf(b)
	told := make([]string, 8)
	var all sync.WaitGroup
	for i := range told {
		all.Go(func() { told[i] = allOf(b) })
	}
	all.Wait()
	for _, s := range told {
		if s != want {
			t.Fatal("readers at the same time tell something else")
		}
	}
}

// allOf is all that a reader tells, in one text.
func allOf(b []byte) string {
	var told strings.Builder
	for r := New(b); !r.Short(); {
		fmt.Fprint(&told, r.Number(1+r.Left()%4), r.Text(), r.Left(), ";")
	}
	return told.String()
}

// A million bytes, read to their end by numbers of one width, or by texts.
func TestP11_2ManyBytes(t *testing.T) {
	b := some(1<<20, 1)
	for _, asked := range []int{aText, 1, 2, 3, 4} {
		r, p := New(b), &plainReader{all: string(b)}
		for !p.short {
			step(t, r, p, asked)
		}
		checkShort(t, r)
	}
}

func TestP1NoneOfTheCallsPanics(t *testing.T) {
	for _, width := range append([]int{1, 2, 3, 4}, odd...) {
		for _, b := range [][]byte{nil, {}, {0}, {1}, {255}, {1, 2, 3}, some(300, 1)} {
			r := New(b)
			for range 400 {
				r.Number(width)
				r.Text()
				r.Left()
				r.Short()
			}
			Put(b, 0, width)
			Put(b, math.MaxUint32, width)
			for _, s := range []string{"", "a", "\xFF", strings.Repeat("\x00", 256), strings.Repeat("é", 5000)} {
				PutText(b, s)
			}
		}
	}
}
