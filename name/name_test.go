package name

import (
	"dowel/api"
	"math/rand"
	"regexp"
	"strings"
	"testing"
	"unicode/utf8"
)

const (
	letters = "abcdefghijklmnopqrstuvwxyzABCDEFGHIJKLMNOPQRSTUVWXYZ"
	digits  = "0123456789"
)

// edges are the first and last letters and digits, their neighbours, and bytes that are far from them.
const edges = "azAZ09`{@[/:_- .\x00\n\x7F\x80\xC3\xE1\xFA\xFF"

// foreign are signs beyond ASCII's, as they are written in UTF-8.
var foreign = []string{
	"é", "ä", "ß", "Ø", "ñ", "ý", "ÿ", "À", // letters with accents
	"α", "Ω", "ж", "Я", "א", "ع", "ก", "あ", "中", "한", "𐐷", // letters of other scripts
	"А", "а", "Ο", "ｂ", "Ｂ", "𝐀", "𝟘", // those that look like ASCII's
	"ſ", "\u212A", "ı", "İ", // those that fold to ASCII's
	"²", "¹", "½", "٣", "९", "０", "Ⅳ", "①", // digits, and numbers
	"\u0130", "\u0139", "\u0141", "\u015A", "\u0161", "\u017A", "\u0461", "\u4E41", "\U00010061", // those whose lowest byte is a letter or digit
	"\u0301", "\u200B", "\u200D", "\uFEFF", "\u00AD", "\u00A0", "\u2028", "_\u0302", // signs that aren't seen, or not by themselves
	"ª", "º", "µ", "×", "÷", "€", "😀", "\uFFFD", "\u0080", "\u07FF", "\u0800", "\uFFFF", "\U00010000", "\U0010FFFF",
}

// broken are bytes that are no UTF-8.
var broken = []string{
	"\x80", "\x81", "\xBF", "\xC0", "\xC1", "\xC2", "\xC3", "\xE0", "\xED", "\xF0", "\xF4", "\xF5", "\xFE", "\xFF",
	"\xC1\x81", "\xC1\xA1", "\xC0\xB0", "\xE0\x81\x81", "\xF0\x80\x81\xA1", // A, a, 0, in more bytes than they have
	"\xED\xA0\x80", "\xED\xBF\xBF", // halves of a pair
	"\xF4\x90\x80\x80", "\xE4\xB8", "\xF0\x9F\x98", "\xA9\xC3", // beyond the last sign; cut off; turned round
	"\xE1", "\xFA", "\xB0", "\xC1\xDA", // a, z, 0, A and Z with the highest bit
}

// isLetterByList and isDigitByList ask the written lists, of one byte.
func isLetterByList(c byte) bool { return strings.IndexByte(letters, c) >= 0 }

func isDigitByList(c byte) bool { return strings.IndexByte(digits, c) >= 0 }

// form is the chapter's words, in another tongue.
var form = regexp.MustCompile(`\A[a-zA-Z][a-zA-Z0-9]{0,15}\z`)

func check(t *testing.T, s string, want bool) {
	t.Helper()
	if got := May(s); got != want {
		t.Fatalf("May(%.60q), of %d bytes, is %v, want %v", s, len(s), got, want)
	}
}

// body is a name of so many signs, if they aren't too many.
func body(signs int) string {
	const s = "aZ09zA5bQ7mY3kB1"
	return strings.Repeat(s, signs/len(s)+1)[:signs]
}

// with is a text with a sign put in at a place.
func with(s string, at int, sign string) string { return s[:at] + sign + s[at:] }

func TestP9_1Example(t *testing.T) {
	check(t, "B2", true)
	check(t, "2B", false)
}

func TestP9_1Names(t *testing.T) {
	for _, s := range []string{
		"a", "z", "A", "Z", "m", "M", "ab", "aB", "Ab", "AB", "a0", "z9", "A9", "Z0", "x1y2", "List", "a1b2c3", "O0O0",
		"ABCDEFGHIJKLMNOP", "QRSTUVWXYZabcdef", "ghijklmnopqrstuv", "wxyz0123456789AZ", "a000000000000000", "Z999999999999999",
		"aaaaaaaaaaaaaaa", "abcdefghijklmn9",
	} {
		check(t, s, true)
	}
}

func TestP9_1NoNames(t *testing.T) {
	for _, s := range []string{
		"", "0", "9", "5", "0a", "9Z", "00", "99", "1234567890123456", "0aaaaaaaaaaaaaaa",
		" ", " a", "a ", "a b", "\t", "a\t", "\n", "\na", "a\n", "ab\r\n", "\x00", "a\x00", "\x00a", "a\x00b",
		"_", "_a", "a_", "a_b", "-", "a-b", "a.b", ".a", "a/b", "/", "a:b", "a,b", "a'", "a\"", "a\\b", "$a", "a$", "#", "+1", "-1", "1.5", "a+b", "(a)", "a;",
		"`", "`a", "a`", "{", "{a", "a{", "@", "@a", "a@", "[", "[a", "a[", "/a", "a/", ":", ":a", "a:", "~", "|", "^", "a^",
		"aaaaaaaaaaaaaaaaa", "ABCDEFGHIJKLMNOPQ", "a0000000000000000", "aaaaaaaaaaaaaaaa ", " aaaaaaaaaaaaaaaa", "aaaaaaaaaaaaaaaa\x00",
	} {
		check(t, s, false)
	}
}

func TestP9_1EachByteAsTheOnlySign(t *testing.T) {
	names := 0
	for b := range 256 {
		s := string([]byte{byte(b)})
		check(t, s, isLetterByList(byte(b)))
		if May(s) {
			names++
		}
	}
	if names != 52 {
		t.Fatalf("%d bytes are a name each, want 52", names)
	}
}

func TestP9_1EachByteAtEachPlaceOfEachLength(t *testing.T) {
	for signs := 1; signs <= 20; signs++ {
		for at := range signs {
			for b := range 256 {
				c := byte(b)
				l := []byte(body(signs))
				l[at] = c
				want := isLetterByList(c) || at > 0 && isDigitByList(c)
				check(t, string(l), want && signs <= 16)
			}
		}
	}
}

func TestP9_1EachTwoBytes(t *testing.T) {
	for first := range 256 {
		for second := range 256 {
			c, d := byte(first), byte(second)
			check(t, string([]byte{c, d}), isLetterByList(c) && (isLetterByList(d) || isDigitByList(d)))
		}
	}
}

// All texts of up to four of the bytes at the edges.
func TestP9_1ShortTextsOfEdges(t *testing.T) {
	texts := []string{""}
	for range 4 {
		var longer []string
		for _, s := range texts {
			for i := range len(edges) {
				longer = append(longer, s+edges[i:i+1])
			}
		}
		for _, s := range longer {
			check(t, s, form.MatchString(s))
		}
		texts = longer
	}
}

func TestP9_1Lengths(t *testing.T) {
	for signs := range 600 {
		want := signs >= 1 && signs <= 16
		check(t, body(signs), want)
		for _, c := range []string{"a", "z", "A", "Z", "m"} {
			check(t, strings.Repeat(c, signs), want)
		}
		check(t, strings.Repeat("7", signs), false)
		check(t, "a"+strings.Repeat("7", signs), signs <= 15)
		check(t, strings.Repeat("a", signs)+"7", want && signs <= 15)
	}
	if api.MaxName != 16 {
		t.Fatal("MaxName")
	}
}

func TestP9_1SignsBeyondASCII(t *testing.T) {
	for _, sign := range foreign {
		if !utf8.ValidString(sign) {
			t.Fatalf("%q is no UTF-8", sign)
		}
		checkNowhere(t, sign)
	}
}

func TestP9_1BytesThatAreNoUTF8(t *testing.T) {
	for _, sign := range broken {
		if utf8.ValidString(sign) {
			t.Fatalf("%q is UTF-8", sign)
		}
		checkNowhere(t, sign)
	}
}

// checkNowhere asks that a sign is in no name: alone, and as the first one, in the middle, and the last one of each length.
func checkNowhere(t *testing.T, sign string) {
	t.Helper()
	check(t, sign, false)
	check(t, sign+sign, false)
	for signs := 1; signs <= 17; signs++ {
		for at := 0; at <= signs; at++ {
			check(t, with(body(signs), at, sign), false)
			check(t, with(strings.Repeat("a", signs), at, sign), false)
			check(t, with(strings.Repeat("7", signs), at, sign), false)
		}
	}
}

func TestP9_1EachSignOfUnicode(t *testing.T) {
	for r := rune(0); r <= utf8.MaxRune; r++ {
		if !utf8.ValidRune(r) {
			continue
		}
		sign := string(r)
		letter := r < 128 && isLetterByList(byte(r))
		digit := r < 128 && isDigitByList(byte(r))
		check(t, sign, letter)
		check(t, sign+"b1", letter)
		check(t, "a"+sign+"1", letter || digit)
		check(t, "Z9"+sign, letter || digit)
	}
}

// Signs are told apart from bytes: neither 16 signs of more bytes, nor fewer signs of 16 bytes, nor those of 17.
func TestP9_1SignsThatAreMoreBytes(t *testing.T) {
	for _, sign := range foreign {
		for signs := 1; signs <= 18; signs++ {
			check(t, strings.Repeat(sign, signs), false)
		}
		check(t, "a"+strings.Repeat(sign, 15), false)
		check(t, body(15)+sign, false)
		check(t, sign+body(15), false)
		if len(sign) < 16 {
			check(t, body(16-len(sign))+sign, false)
			check(t, sign+body(16-len(sign)), false)
			check(t, body(17-len(sign))+sign, false)
		}
	}
	for _, s := range []string{"abcdefghijklmnoé", "éabcdefghijklmno", "abcdefghéijklmno", "ееееееееееееееее", "模块模块模块模块模块模块模块模块", "aéaéaéaéaéaéaéaé"} {
		if utf8.RuneCountInString(s) != 16 || len(s) <= 16 {
			t.Fatalf("%q isn't 16 signs of more bytes", s)
		}
		check(t, s, false)
	}
}

func TestP9_1VeryLongTexts(t *testing.T) {
	for _, long := range []int{1 << 8, 1 << 10, 1 << 12, 1 << 15, 1 << 16, 1 << 17, 1 << 20, 1 << 24} {
		for _, signs := range []int{long - 1, long, long + 1, long + 2, long + 15, long + 16, long + 17} {
			for _, sign := range []string{"a", "Z", "0", "_", "\x00", "\xFF", "é", "中"} {
				s := strings.Repeat(sign, signs)
				check(t, s, false)
				check(t, s[:signs], false)
			}
		}
	}
	// A piece of a long text is asked for itself alone.
	s := strings.Repeat("a", 1<<20)
	for at := 0; at <= 20; at++ {
		check(t, s[:at], at >= 1 && at <= 16)
		check(t, s[len(s)-at:], at >= 1 && at <= 16)
	}
	check(t, "_abc_"[1:4], true)
	check(t, "7a7_"[1:3], true)
}

// anyText is a text of up to 20 signs, nearly a name or not.
func anyText(r *rand.Rand) string {
	kinds := []string{letters, letters + digits, letters + digits + edges}
	signs := kinds[r.Intn(len(kinds))]
	l := make([]byte, r.Intn(21))
	for i := range l {
		l[i] = signs[r.Intn(len(signs))]
	}
	if len(l) > 0 && r.Intn(8) == 0 {
		l[r.Intn(len(l))] = byte(r.Intn(256))
	}
	return string(l)
}

func TestP9_1AnyTexts(t *testing.T) {
	r := rand.New(rand.NewSource(9))
	names := 0
	for range 300000 {
		s := anyText(r)
		want := form.MatchString(s)
		check(t, s, want)
		if want {
			names++
		}
	}
	if names < 30000 || names > 270000 {
		t.Fatalf("%d of these texts are names: too much of one kind", names)
	}
}

// It keeps nothing: what was asked before doesn't matter.
func TestP9_1AskedAgain(t *testing.T) {
	for range 100 {
		for _, s := range []string{"a", "B2", body(16)} {
			check(t, s, true)
			check(t, "", false)
			check(t, "2B", false)
			check(t, s, true)
			check(t, s+"_", false)
			check(t, body(17), false)
		}
	}
}

func TestP9_2WithOneMoreSign(t *testing.T) {
	starts := []string{"a", "z", "A", "Z", "B2", "List", "x1y2", "O0O0"}
	for signs := 1; signs <= 16; signs++ {
		starts = append(starts, body(signs), strings.Repeat("Q", signs), "k"+strings.Repeat("0", signs-1))
	}
	for _, s := range starts {
		check(t, s, true)
		for b := range 256 {
			c := byte(b)
			check(t, s+string([]byte{c}), (isLetterByList(c) || isDigitByList(c)) && len(s) < 16)
		}
		for _, sign := range foreign {
			check(t, s+sign, false)
		}
		for _, sign := range broken {
			check(t, s+sign, false)
		}
	}
}

// From each letter on, with each letter and digit behind, till it is too long.
func TestP9_2Growing(t *testing.T) {
	for _, first := range letters {
		for _, later := range letters + digits {
			s := string(first)
			for len(s) <= 16 {
				check(t, s, true)
				s += string(later)
			}
			check(t, s, false)
			check(t, s+string(later), false)
		}
	}
}

func TestP9_2Beginnings(t *testing.T) {
	l := []string{"a", "B2", "List", "ABCDEFGHIJKLMNOP", "a000000000000000", "Z999999999999999", "x1y2z3X4Y5Z6a7b8"}
	r := rand.New(rand.NewSource(92))
	for len(l) < 20000 {
		if s := anyText(r); form.MatchString(s) {
			l = append(l, s)
		}
	}
	for _, s := range l {
		check(t, s[:0], false)
		for n := 1; n <= len(s); n++ {
			check(t, s[:n], true)
		}
	}
}

func TestP1NoTextPanics(t *testing.T) {
	var empty string
	check(t, empty, false)
	for n := range 40 {
		check(t, string(make([]byte, n)), false)
		check(t, strings.Repeat("\xFF", n), false)
		check(t, strings.Repeat("\xF0\x9F", n), false)
	}
	r := rand.New(rand.NewSource(1))
	for range 100000 {
		l := make([]byte, r.Intn(24))
		r.Read(l)
		check(t, string(l), form.Match(l))
	}
}
