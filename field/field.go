// Package field is layer 1: see shared/doc/01-field.md.
package field

const (
	wordBits  = 32
	wordBytes = 4
	byteBits  = 8
)

// Get are some bits: P1.1.
func Get(w uint32, at, bits int) uint32 {
	if !inWord(at, bits) {
		return 0
	}
	return (w >> at) & lowest(bits)
}

// Put puts some bits: P1.1.
func Put(w uint32, at, bits int, v uint32) uint32 {
	if !inWord(at, bits) {
		return w
	}
	mask := lowest(bits)
	return w&^(mask<<at) | (v&mask)<<at
}

// Sign is a number with a sign: P1.1.
func Sign(v uint32, bits int) int32 {
	if !isWidth(bits) {
		return 0
	}
	// Going back down as a signed number, the topmost of the bits is copied into all above it.
	above := wordBits - bits
	return int32(v<<above) >> above
}

// Word is bytes' word: P1.2.
func Word(b []byte) uint32 {
	var w uint32
	for i, x := range b[:min(len(b), wordBytes)] {
		w |= uint32(x) << (byteBits * i)
	}
	return w
}

// Bytes are a word's: P1.2.
func Bytes(w uint32) []byte {
	b := make([]byte, wordBytes)
	for i := range b {
		b[i] = byte(w >> (byteBits * i))
	}
	return b
}

func isWidth(bits int) bool { return bits >= 1 && bits <= wordBits }

// inWord takes bits off the word rather than adding them to at: that sum could wrap round.
func inWord(at, bits int) bool {
	return isWidth(bits) && at >= 0 && at <= wordBits-bits
}

// lowest is a word of so many ones, for bits that are a width.
func lowest(bits int) uint32 { return ^uint32(0) >> (wordBits - bits) }
