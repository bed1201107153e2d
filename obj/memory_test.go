package obj

import (
	"dowel/api"
	"testing"
)

// spoil changes all elements of an object's lists, up to their capacity.
func spoil(o api.Object) {
	fill(o.Imports, api.Import{Name: "spoilt", Key: 99})
	fill(o.Types, api.Type{Size: 99, Mod: 99, Base: 99})
	fill(o.Code, 99)
	fill(o.Cmds, api.Entry{Name: "spoilt", At: 99})
	fill(o.Exports, api.Export{Kind: 99, At: 99})
	fill(o.Ptrs, 99)
	fill(o.Procs, 99)
}

// fill changes all of a list, up to its capacity.
func fill[T any](list []T, with T) {
	list = list[:cap(list)]
	for i := range list {
		list[i] = with
	}
}

func TestP12_2WhatIsPutStays(t *testing.T) {
	o := full()
	first, err := Put(o)
	if err != nil || !isFull(o) {
		t.Fatalf("Put makes %v of it, %v", o, err)
	}
	fill(first, 77)
	if !isFull(o) {
		t.Fatalf("bytes that were told, changed, turn it into %v", o)
	}
	second, err := Put(o)
	if err != nil {
		t.Fatal(err)
	}
	checkBytes(t, second, fullBytes())
	spoil(o)
	checkBytes(t, second, fullBytes())
	fill(first, 78)
	checkBytes(t, second, fullBytes())
	third, err := Put(full())
	if err != nil {
		t.Fatal(err)
	}
	checkBytes(t, third, fullBytes())
}

func TestP12_2WhatIsGotStays(t *testing.T) {
	b := fullBytes()
	first, err := Get(b)
	if err != nil {
		t.Fatal(err)
	}
	second, err := Get(b)
	if err != nil {
		t.Fatal(err)
	}
	checkBytes(t, b, fullBytes())
	spoil(first)
	checkBytes(t, b, fullBytes())
	if !isFull(second) {
		t.Fatalf("what one Get told, changed, turns the other's into %v", second)
	}
	fill(b, 77)
	if !isFull(second) {
		t.Fatalf("bytes that were handed in, changed, turn the object into %v", second)
	}
	third, err := Get(fullBytes())
	if err != nil || !isFull(third) {
		t.Fatalf("Get = %v, %v", third, err)
	}
}

func TestP12_2BytesBehindThoseHandedInStay(t *testing.T) {
	room := append(fullBytes(), 7, 7, 7, 7, 7, 7, 7, 7)
	b := room[:len(fullBytes())]
	o, err := Get(b)
	if err != nil || !isFull(o) {
		t.Fatalf("Get = %v, %v", o, err)
	}
	again, err := Put(o)
	if err != nil {
		t.Fatal(err)
	}
	checkBytes(t, again, fullBytes())
	checkBytes(t, room[len(b):], []byte{7, 7, 7, 7, 7, 7, 7, 7})
}

func TestP12_2ListsOfOneObjectShareNothing(t *testing.T) {
	for _, spoilOne := range []func(o api.Object){
		func(o api.Object) { fill(o.Ptrs, 99) },
		func(o api.Object) { _ = append(o.Ptrs, 98, 98, 98, 98) },
	} {
		o, err := Get(fullBytes())
		if err != nil {
			t.Fatal(err)
		}
		spoilOne(o)
		copy(o.Ptrs, full().Ptrs)
		if !isFull(o) {
			t.Fatalf("Ptrs, changed, turn it into %v", o)
		}
		fill(o.Procs, 97)
		copy(o.Procs, full().Procs)
		if !isFull(o) {
			t.Fatalf("Procs, changed, turn it into %v", o)
		}
	}
}

func TestP12_2SameChangesNothing(t *testing.T) {
	for _, o := range differing() {
		a, b := copyOf(o), full()
		Same(a, b)
		Same(b, a)
		if !plainSame(a, o) || !isFull(b) {
			t.Fatal("what was handed in is changed")
		}
	}
}

func TestP12_2TextsStay(t *testing.T) {
	for _, part := range texts() {
		o := full()
		part.set(&o, letters(255, 9))
		b, err := Put(o)
		if err != nil {
			t.Fatal(err)
		}
		got, err := Get(b)
		if err != nil {
			t.Fatal(err)
		}
		fill(b, 0)
		if !plainSame(got, o) {
			t.Fatalf("%s hangs on the bytes that were handed in", part.name)
		}
	}
}
