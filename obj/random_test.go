package obj

import (
	"dowel/api"
	"math/rand"
	"slices"
	"testing"
)

// maker makes objects at random: mostly such as have bytes.
type maker struct {
	*rand.Rand
	wild int // one of so many numbers may be anything
}

func (m maker) number(low, high int) int {
	if m.Intn(m.wild) == 0 {
		return edges[m.Intn(len(edges))]
	}
	if m.Intn(4) == 0 {
		return []int{low, low + 1, high - 1, high}[m.Intn(4)]
	}
	return low + m.Intn(high-low+1)
}

func (m maker) text() string {
	count := m.Intn(12)
	if m.Intn(m.wild) == 0 {
		count = 250 + m.Intn(20)
	}
	b := make([]byte, count)
	m.Read(b)
	return string(b)
}

// some is a list of a random length.
func some[T any](m maker, one func() T) []T {
	count := m.Intn(7)
	switch {
	case m.Intn(m.wild) == 0:
		count = 250 + m.Intn(12)
	case count == 0 && m.Intn(2) == 0:
		return []T{}
	}
	var list []T
	for range count {
		list = append(list, one())
	}
	return list
}

func (m maker) object() api.Object {
	place := func() int { return m.number(0, 65535) }
	small := func() int { return m.number(0, 255) }
	return api.Object{
		Name:    m.text(),
		Key:     m.Uint32(),
		Imports: some(m, func() api.Import { return api.Import{Name: m.text(), Key: m.Uint32()} }),
		Types:   some(m, func() api.Type { return api.Type{Size: place(), Mod: small(), Base: m.number(-1, 254)} }),
		Data:    small(),
		Text:    m.text(),
		Code:    some(m, m.Uint32),
		Cmds:    some(m, func() api.Entry { return api.Entry{Name: m.text(), At: place()} }),
		Exports: some(m, func() api.Export { return api.Export{Kind: small(), At: place()} }),
		Ptrs:    some(m, small),
		Procs:   some(m, small),
		Fix:     [3]int{place(), place(), place()},
		Body:    place(),
	}
}

func TestP12_3AnyObjects(t *testing.T) {
	for _, wild := range []int{20, 200, 2000, 1 << 30} {
		m := maker{rand.New(rand.NewSource(int64(wild))), wild}
		put := 0
		for range 4000 {
			o := m.object()
			checkPut(t, o)
			if _, err := Put(o); err == nil {
				put++
			}
			checkSame(t, o, copyOf(o), true)
		}
		if wild == 1<<30 && put != 4000 || wild == 20 && put == 4000 {
			t.Fatalf("%d of 4000 were put", put)
		}
	}
}

func TestP12_3AnyBytes(t *testing.T) {
	r := rand.New(rand.NewSource(12))
	for range 60000 {
		b := make([]byte, r.Intn(80))
		r.Read(b)
		for i := range b {
			if r.Intn(3) > 0 {
				b[i] = byte(r.Intn(3))
			}
		}
		checkGet(t, b)
		checkGet(t, slices.Concat([]byte("DW"), b))
	}
}

// TestP12_3NearlyAnObject changes an object's bytes at some places.
func TestP12_3NearlyAnObject(t *testing.T) {
	m := maker{rand.New(rand.NewSource(3)), 1 << 30}
	told := 0
	for range 3000 {
		whole, err := Put(m.object())
		if err != nil {
			t.Fatal(err)
		}
		for range 10 {
			b := m.changed(whole)
			checkGet(t, b)
			if _, err := Get(b); err == nil {
				told++
			}
		}
	}
	if told < 1000 || told > 29000 {
		t.Fatalf("%d of 30000 are an object's", told)
	}
}

// changed is bytes with a few of them changed, taken out, or put in.
func (m maker) changed(b []byte) []byte {
	b = slices.Clone(b)
	for range 1 + m.Intn(3) {
		at := m.Intn(len(b))
		switch m.Intn(6) {
		case 0:
			b = slices.Insert(b, at, byte(m.Intn(256)))
		case 1:
			b = slices.Delete(b, at, at+1)
		case 2:
			b[at]++
		case 3:
			b[at]--
		default:
			b[at] = byte(m.Intn(256))
		}
	}
	return b
}

// TestP12_3AllOfShortBytes puts each value of two bytes, and of any three places of a few values, into what is nearly nothing.
func TestP12_3AllOfShortBytes(t *testing.T) {
	size := len(bareBytes())
	for a := 2; a < size; a++ {
		for b := a + 1; b < size; b++ {
			for values := range 5 * 5 {
				changed := bareBytes()
				changed[a], changed[b] = []byte{1, 2, 3, 254, 255}[values%5], []byte{1, 2, 3, 254, 255}[values/5]
				checkGet(t, changed)
				checkGet(t, append(changed, 0))
				checkGet(t, append(changed, make([]byte, 4)...))
				checkGet(t, append(changed, 1, 1, 1, 1, 1, 1))
			}
		}
	}
}

// TestP12_3WhatIsGotIsPutAsThoseBytes asks it of bytes that are an object's, whatever stands at a place.
func TestP12_3WhatIsGotIsPutAsThoseBytes(t *testing.T) {
	same := 0
	for at := range fullBytes() {
		for n := range 256 {
			b := fullBytes()
			b[at] = byte(n)
			o, err := Get(b)
			if err != nil {
				continue
			}
			again, err := Put(o)
			if err != nil {
				t.Fatalf("with %d at %d: %v", n, at, err)
			}
			checkBytes(t, again, b)
			same++
		}
	}
	if same < 50*256 {
		t.Fatalf("just %d were an object's", same)
	}
}

func TestP12_3WhatWasPutIsGot(t *testing.T) {
	for _, o := range differing() {
		b, err := Put(o)
		if err != nil {
			continue
		}
		for range 3 {
			got, err := Get(b)
			if err != nil || !plainSame(got, o) || !Same(got, o) || !Same(o, got) {
				t.Fatalf("%v is got as %v, %v", o, got, err)
			}
			if b, err = Put(got); err != nil {
				t.Fatal(err)
			}
		}
	}
}
