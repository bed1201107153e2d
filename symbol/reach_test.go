package symbol

import (
	"dowel/api"
	"math"
	"testing"
)

// edgesOf are numbers beside each of some.
func edgesOf(l ...int) []int {
	var out []int
	for _, n := range l {
		for d := -5; d <= 5; d++ {
			out = append(out, n+d)
		}
	}
	return out
}

// A load, and a store, at a number: each width, below the stack, in it, at its last word, at its end and beyond, with the highest bit.
func TestP22_2ReachOfNumbers(t *testing.T) {
	for _, n := range append(edgesOf(0, 16, 140, 268, 272, 1024, math.MinInt32+5, math.MaxInt32-5), 65536) {
		trap := 0
		switch {
		case n >= 0 && n < 16:
			trap = api.TrapRange
		case n < 0 || n >= 272:
			trap = api.TrapMix
		}
		loads(t, api.LoadB, anumber(n), 0, anumber(0), trap)
		stores(t, api.StorB, anumber(-1), anumber(n), 0, trap)
		if n%4 != 0 {
			trap = api.TrapAlign
		}
		loads(t, api.Load, anumber(n), 0, anumber(0), trap)
		stores(t, api.Store, anumber(-1), anumber(n), 0, trap)
		stores(t, api.Store, aplace(2, 5), anumber(n), 0, trap)
	}
}

// The number, and the instruction's own, wrap round together.
func TestP22_2ReachWrapsRound(t *testing.T) {
	for _, x := range []struct{ n, more, word, byte int }{
		{-4, 20, 0, 0}, {-16, 32, 0, 0}, {272, -4, 0, 0}, {272, -256, 0, 0}, {131071, -130999, 0, 0},
		{-4, 16, api.TrapRange, api.TrapRange}, {-1, 1, api.TrapRange, api.TrapRange}, {20, -20, api.TrapRange, api.TrapRange}, {0, 15, api.TrapAlign, api.TrapRange},
		{16, -17, api.TrapAlign, api.TrapMix}, {16, -20, api.TrapMix, api.TrapMix}, {0, -4, api.TrapMix, api.TrapMix}, {268, 4, api.TrapMix, api.TrapMix},
		{math.MaxInt32, 1, api.TrapMix, api.TrapMix}, {math.MinInt32, -4, api.TrapMix, api.TrapMix}, {math.MinInt32, -1, api.TrapAlign, api.TrapMix}, {0, 131071, api.TrapAlign, api.TrapMix}, {0, -131072, api.TrapMix, api.TrapMix},
	} {
		loads(t, api.Load, anumber(x.n), x.more, anumber(0), x.word)
		stores(t, api.Store, anumber(7), anumber(x.n), x.more, x.word)
		loads(t, api.LoadB, anumber(x.n), x.more, anumber(0), x.byte)
		stores(t, api.StorB, anumber(7), anumber(x.n), x.more, x.byte)
	}
}

// wordsOfTarget are what a target's words are at first, up to its code.
func wordsOfTarget(mod int) []Value {
	l := append(numbers(0, 0, 0, 0, 0, 0, 8, 0, 0, 0, 12), aplace(mod, targetTypes))
	return append(l, numbers(0, 0, 'a'+'b'<<8+'c'<<16+'d'<<24, 'e')...)
}

// A load at a place: each byte of a block, and around it, whether the place, or the instruction, tells how far.
func TestP22_2LoadsAtPlaces(t *testing.T) {
	for at := -9; at <= targetSize+9; at++ {
		word, byte := 0, 0
		switch {
		case at < 0 || at >= targetSize:
			word, byte = api.TrapMix, api.TrapMix
		case at >= targetCode:
			word, byte = api.TrapRange, api.TrapRange
		}
		var v, b Value
		if word == 0 {
			v = wordsOfTarget(1)[at/4]
			b = anumber(v.N >> (at % 4 * 8) & 255)
			if v.Mod != 0 {
				b, byte = Value{}, api.TrapMix
			}
		}
		if at%4 != 0 {
			word = api.TrapAlign
		}
		loads(t, api.Load, aplace(1, 0), at, v, word)
		loads(t, api.LoadB, aplace(1, 0), at, b, byte)
		loads(t, api.Load, aplace(1, targetSize), at-targetSize, v, word)
		loads(t, api.LoadB, aplace(1, targetSize), at-targetSize, b, byte)
		if at >= 0 && at <= targetSize {
			loads(t, api.Load, aplace(1, at), 0, v, word)
			loads(t, api.LoadB, aplace(1, at), 0, b, byte)
		}
	}
	for _, far := range []int{-131072, 131068, 65536, -65536} {
		loads(t, api.Load, aplace(1, 0), far, Value{}, api.TrapMix)
		loads(t, api.LoadB, aplace(2, targetSize), far, Value{}, api.TrapMix)
		loads(t, api.Load, aplace(2, 2), far, Value{}, api.TrapAlign)
	}
}

// A store at a place: each byte of a block, and around it. In its data the two first words are declared.
func TestP22_2StoresAtPlaces(t *testing.T) {
	for at := -9; at <= targetSize+9; at++ {
		word, byte := 0, 0
		switch {
		case at < 0 || at >= targetSize:
			word, byte = api.TrapMix, api.TrapMix
		case at >= targetTypes:
			word, byte = api.TrapRange, api.TrapRange
		case at < 8:
			// A small number is no place, and a byte is never stored there.
			word, byte = api.TrapPointer, api.TrapPointer
		}
		if at%4 != 0 {
			word = api.TrapAlign
		}
		for _, from := range []int{0, 20, targetSize} {
			g := stores(t, api.Store, anumber(77), aplace(2, from), at-from, word)
			want := numbers(0, 0, 0, 0, 0, 0)
			if word == 0 {
				want[at/4] = anumber(77)
			}
			g.has(2, want...).has(1, numbers(0, 0, 0, 0, 0, 0)...)
			g = stores(t, api.StorB, anumber(0x1234), aplace(2, from), at-from, byte)
			want = numbers(0, 0, 0, 0, 0, 0)
			if byte == 0 {
				want[at/4] = anumber(0x34 << (at % 4 * 8))
			}
			g.has(2, want...)
		}
	}
}

// All of the types of a prober's own block, and of its text, can be loaded, and none of its code.
func TestP22_2LoadsOfItsOwn(t *testing.T) {
	for i, v := range wordsOfTarget(3) {
		loads(t, api.Load, aplace(3, 4*i), 0, v, 0)
	}
	p := prober().value(1, aplace(3, 0)).ins(api.Load, 2, 1, targetCode).back()
	probe(t, p).is(3, 0, enough, trapped(api.TrapRange, 1))
	size := p.size()
	for more, trap := range map[int]int{size - 4: api.TrapRange, size - 1: api.TrapAlign, size: api.TrapMix, -4: api.TrapMix} {
		p = prober().value(1, aplace(3, 0)).ins(api.Load, 2, 1, more).back()
		probe(t, p).is(3, 0, enough, trapped(trap, 1))
		p = prober().value(1, aplace(3, 0)).ins(api.Store, 2, 1, more).back()
		probe(t, p).is(3, 0, enough, trapped(trap, 1))
	}
}

// wide is a module of 64 data words, 8 types, 60 bytes of a text.
func wide() *source {
	x := unit("A").data(64).text("....:....|....:....|....:....|....:....|....:....|....:....|").export(api.Var, 0)
	for i := range 8 {
		x.rec(4*i, 0, min(i, 3)-1)
	}
	return x.back().back()
}

// In a block of the greatest parts each word of data, types and text is where it is to be.
func TestP22_2TheGreatestParts(t *testing.T) {
	x := wide()
	for at := 256; at < 452; at += 4 {
		g := newRig(t, twoWays()...)
		g.add(x)
		y := unit("B", "A").data(1).export(api.Var, 0).ref(addresses, 1, 1, 0).ins(api.Load, 2, 1, at).keep(2, 0).back()
		g.add(y, 1)
		g.is(2, 0, enough, trappedIf(at >= 444, api.TrapRange, 1, 5))
		if at == 444-4 {
			g.has(2, anumber('.'+'.'<<8+'.'<<16+'|'<<24))
		}
		if at == 256+16*7 {
			g.has(2, anumber(28))
		}
		if at == 256+16*7+12 {
			g.has(2, aplace(1, 256+32))
		}
	}
}

// Of a text with any bytes each word is a number of 32 bits, with its sign, and each byte one without.
func TestP22_2AnyText(t *testing.T) {
	text := "\x7f\x80\x00\xff" + "\xff\xff\xff\xff" + "\x00\x00\x00\x80" + "\x80\xff"
	x := unit("A").data(7).export(api.Var, 0).text(text).ref(addresses, 1, 0, 0).ref(addresses, 2, 15, 0)
	for i := range 4 {
		x.ins(api.Load, 3, 2, 4*i).ins(api.Store, 3, 1, 4*i)
	}
	for i, at := range []int{1, 3, 12} {
		x.ins(api.LoadB, 3, 2, at).ins(api.Store, 3, 1, 16+4*i)
	}
	g := newRig(t, twoWays()...).adds(x.back())
	g.is(1, 0, enough, done(17)).has(1, numbers(-16744321, -1, math.MinInt32, 0xff80, 0x80, 0xff, 0x80)...)
}

// trappedIf is a trap, or what is done with so many steps.
func trappedIf(is bool, trap, steps, all int) api.Outcome {
	if is {
		return trapped(trap, steps)
	}
	return done(all)
}

// A byte of a word that is a place can't be known, wherever the word is; nor is a byte stored into one, nor one stored of a place.
func TestP22_2BytesOfPlaces(t *testing.T) {
	for _, place := range []Value{{2, 0}, {2, 5}, {2, 80}, {3, 8}} {
		for _, at := range []Value{{1, 8}, {3, 12}, {0, 16}, {0, 268}} {
			for i := range 4 {
				p := prober().value(1, at).value(2, place).ins(api.Store, 2, 1, 0)
				steps := p.here()
				p.ins(api.LoadB, 3, 1, i).none()
				stored := p.here()
				p.value(1, at).ins(api.Set, 2, 0, 5)
				p.ins(api.StorB, 2, 1, i).none()
				again := p.here()
				// Where the word is a number again, its bytes are known; but a place's are not.
				p.value(1, at).ins(api.Store, 0, 1, 0).value(2, place).ins(api.LoadB, 3, 1, i).ins(api.StorB, 2, 1, i).none()
				g := probe(t, p)
				g.is(3, 0, enough, trapped(api.TrapMix, steps))
				g.is(3, stored, enough, trapped(api.TrapMix, again-stored-2))
				g.is(3, again, enough, trapped(api.TrapMix, p.here()-again-2))
			}
		}
	}
}

// A byte is loaded without a sign, and stored beside the others.
func TestP22_2Bytes(t *testing.T) {
	for _, at := range []Value{{1, 8}, {3, 16}, {0, 16}, {0, 268}} {
		for i, want := range []int{0x84, 0x73, 0xf2, 0x91} {
			p := prober().value(1, at).number(2, int(int32(-0x6e0d8c7c))).ins(api.Store, 2, 1, 0)
			p.ins(api.LoadB, 3, 1, i).keep(3, result).ins(api.Set, 4, 0, -256+0x5a).ins(api.StorB, 4, 1, i).ins(api.Load, 5, 1, 0).keep(5, 2).back()
			g := probe(t, p)
			if o := g.call(3, 0, enough); o.End != api.Done {
				t.Errorf("it comes to %+v", o)
			}
			whole := uint32(0x91f27384)&^(0xff<<(8*i)) | 0x5a<<(8*i)
			if l := g.w.Data(3); l[result] != anumber(want) || l[2] != anumber(int(int32(whole))) {
				t.Errorf("byte %d at %v: %v, want %d, %d", i, at, l, want, int32(whole))
			}
		}
	}
	// Four bytes make a word of the text's kind.
	p := prober().ins(api.Set, 1, 0, 100)
	for i, b := range []int{1, 2, 3, 0x80} {
		p.ins(api.Set, 2, 0, b).ins(api.StorB, 2, 1, i)
	}
	probe(t, p.ins(api.Load, 3, 1, 0).keep(3, result).back()).is(3, 0, enough, done(13)).has(3, numbers(0, 0, 0, 0, 0, int(int32(-0x7ffcfdff)))...)
}

// A word is loaded as the value that is there: a place, or a number; of data, and of the stack.
func TestP22_2WordsAreValues(t *testing.T) {
	for _, v := range []Value{{}, {N: 1}, {N: -1}, {N: math.MinInt32}, {N: math.MaxInt32}, {1, 0}, {1, 80}, {2, 33}, {3, 7}} {
		for _, at := range []Value{{1, 8}, {2, 20}, {3, 12}, {0, 16}, {0, 140}, {0, 268}} {
			stores(t, api.Store, v, at, 0, 0)
		}
	}
}

// What is loaded of a place may be used as one.
func TestP22_2PlacesOfPlaces(t *testing.T) {
	p := prober().value(1, aplace(1, 8)).value(2, aplace(2, 12)).ins(api.Store, 1, 1, 0).ins(api.Store, 2, 1, 4)
	p.ins(api.Load, 3, 1, 0).ins(api.Load, 4, 3, 4).ins(api.Set, 5, 0, 99).ins(api.Store, 5, 4, 8).back()
	g := probe(t, p).is(3, 0, enough, done(11))
	g.has(1, Value{}, Value{}, aplace(1, 8), aplace(2, 12), Value{}, Value{}).has(2, numbers(0, 0, 0, 0, 0, 99)...)
	// Through a descriptor: the type that a target's second one extends.
	p = prober().ref(types, 1, 2, itsLast).ins(api.Load, 2, 1, 4).ins(api.Load, 3, 2, 0).keep(3, result).ref(types, 4, 2, itsType).ins(api.Same, 4, 2, 1).none().back()
	probe(t, p).is(3, 0, enough, done(8)).has(3, numbers(0, 0, 0, 0, 0, 8)...)
}

// A StorB to a read-only byte is TrapRange, also of a place; where nothing is, TrapMix; a word's align comes ahead of all.
func TestP22_2WhichTrapOfStores(t *testing.T) {
	place := aplace(1, 4)
	stores(t, api.StorB, place, aplace(2, targetTypes), 4, api.TrapRange)
	stores(t, api.StorB, place, aplace(2, targetTypes), 20, api.TrapRange)
	stores(t, api.StorB, place, aplace(2, targetText), 1, api.TrapRange)
	stores(t, api.StorB, place, aplace(2, targetCode), 1, api.TrapRange)
	stores(t, api.StorB, place, aplace(2, targetSize), 0, api.TrapMix)
	stores(t, api.StorB, place, aplace(2, 0), -1, api.TrapMix)
	stores(t, api.StorB, place, anumber(15), 0, api.TrapRange)
	stores(t, api.StorB, place, anumber(16), 0, api.TrapMix)
	stores(t, api.StorB, place, anumber(272), 0, api.TrapMix)
	stores(t, api.StorB, place, aplace(2, 8), 0, api.TrapMix)
	stores(t, api.StorB, place, aplace(2, 7), 0, api.TrapPointer)
	stores(t, api.StorB, place, aplace(2, 3), 0, api.TrapPointer)
	for d := 1; d < 4; d++ {
		for _, at := range []Value{{0, 0}, {0, 12}, {0, 16}, {0, 272}, {0, -4}, {2, 0}, {2, 4}, {2, 8}, {2, targetTypes}, {2, targetCode}, {2, targetSize}} {
			stores(t, api.Store, place, at, d, api.TrapAlign)
			loads(t, api.Load, at, d, Value{}, api.TrapAlign)
		}
		stores(t, api.Store, place, aplace(2, 0), d-4, api.TrapAlign)
	}
	// Into a declared cell that has a place a byte is TrapPointer, too.
	p := prober().value(1, aplace(3, 0)).ins(api.Store, 1, 1, 0).ins(api.StorB, 0, 1, 2).back()
	probe(t, p).is(3, 0, enough, trapped(api.TrapPointer, 2))
	p = prober().value(1, aplace(3, 0)).ins(api.Store, 1, 1, 0).ins(api.StorB, 1, 1, 2).back()
	probe(t, p).is(3, 0, enough, trapped(api.TrapPointer, 2))
	p = prober().value(1, aplace(3, 0)).ins(api.Store, 1, 1, 0).ins(api.LoadB, 2, 1, 2).back()
	probe(t, p).is(3, 0, enough, trapped(api.TrapMix, 2))
}

// The same register may be where it is, and what is loaded or stored.
func TestP22_2OneRegister(t *testing.T) {
	p := prober().value(1, aplace(2, 8)).ins(api.Store, 1, 1, 0).ins(api.Load, 1, 1, 0).ins(api.More, 1, 1, 4).keep(1, result).ins(api.Load, 1, 1, 0).keep(1, 4).back()
	probe(t, p).is(3, 0, enough, done(11)).has(3, Value{}, Value{}, Value{}, Value{}, Value{}, aplace(2, 12))
}
