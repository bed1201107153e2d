package zone

import (
	"dowel/api"
	"errors"
	"math"
	"slices"
	"testing"
)

// sample are zones that rise: two that touch, one without code or data, one at memory's end; with cells in and out of order.
func sample() []Zone {
	return []Zone{
		{Base: 300, Data: 320, Read: 332, End: 348, Ptrs: []int{300, 316}, Procs: []int{308}},
		{Base: 348, Data: 360, Read: 360, End: 364, Procs: []int{356, 348}},
		{Base: 1000, Data: 1000, Read: 1008, End: 1008},
		{Base: 65516, Data: 65524, Read: 65528, End: 65536, Ptrs: []int{65520, 65516}, Procs: []int{}},
	}
}

// made are zones that may be, added in that order.
func made(t *testing.T, l ...Zone) *Zones {
	t.Helper()
	z := New()
	if z == nil {
		t.Fatal("New() is nil")
	}
	for _, x := range l {
		add(t, z, x)
	}
	return z
}

func add(t *testing.T, z *Zones, x Zone) {
	t.Helper()
	if err := z.Add(x); err != nil {
		t.Fatalf("Add(%v): %v, want it added to %v", x, err, z.All())
	}
}

func remove(t *testing.T, z *Zones, base int) {
	t.Helper()
	if !z.Remove(base) {
		t.Fatalf("Remove(%d) is false, of %v", base, z.All())
	}
}

// checkNoAdd asks for the Code itself, and that the zones are as they were.
func checkNoAdd(t *testing.T, z *Zones, p plain, x Zone) {
	t.Helper()
	err := z.Add(x)
	if err == nil {
		t.Fatalf("Add(%v) was done, to %v", x, p)
	}
	if code, itself := err.(api.Code); !itself || code != api.ErrArg {
		t.Fatalf("Add(%v): %v, want ErrArg itself", x, err)
	}
	if !errors.Is(err, api.ErrArg) {
		t.Fatal("errors.Is does not find ErrArg")
	}
	checkSame(t, z, p, append(around(x.Ptrs), around(x.Procs)...))
}

func checkNoRemove(t *testing.T, z *Zones, p plain, base int) {
	t.Helper()
	if z.Remove(base) {
		t.Fatalf("Remove(%d) is true, of %v", base, p)
	}
	checkSame(t, z, p, nil)
}

func sameZone(x, y Zone) bool {
	return x.Base == y.Base && x.Data == y.Data && x.Read == y.Read && x.End == y.End &&
		slices.Equal(x.Ptrs, y.Ptrs) && slices.Equal(x.Procs, y.Procs)
}

func checkAll(t *testing.T, z *Zones, want []Zone) {
	t.Helper()
	if got := z.All(); !slices.EqualFunc(got, want, sameZone) {
		t.Fatalf("All() = %v, want %v", got, want)
	}
}

// plain are the chapter's zones, asked byte by byte.
type plain []Zone

func each(at, bytes int, is func(int) bool) bool {
	if bytes < 1 {
		return false
	}
	for n := range bytes {
		if !is(at + n) {
			return false
		}
	}
	return true
}

func (p plain) canStore(at, bytes int) bool {
	stored := each(at, bytes, func(b int) bool { return b >= 16 && b < 272 })
	for _, x := range p {
		stored = stored || each(at, bytes, func(b int) bool { return b >= x.Base && b < x.Data })
	}
	return stored
}

func (p plain) canLoad(at, bytes int) bool {
	loaded := p.canStore(at, bytes)
	for _, x := range p {
		loaded = loaded || each(at, bytes, func(b int) bool {
			return b >= x.Base && b < x.Data || b >= x.Data && b < x.Read
		})
	}
	return loaded
}

func (p plain) canRun(at int) bool {
	return at&3 == 0 && slices.ContainsFunc(p, func(x Zone) bool { return at >= x.Read && at < x.End })
}

func (p plain) cell(at int) int {
	has := func(l []int) bool {
		return slices.ContainsFunc(l, func(c int) bool { return at >= c && at <= c+3 })
	}
	for _, x := range p {
		if has(x.Ptrs) {
			return 1
		}
		if has(x.Procs) {
			return 2
		}
	}
	return 0
}

func (p plain) fits(kind, value int) bool {
	pointed := slices.ContainsFunc(p, func(x Zone) bool { return value >= x.Base && value < x.Read })
	return kind == 0 || kind == 1 && (value == 0 || pointed) || kind == 2 && (value == 0 || p.canRun(value))
}

// may tells whether a zone may be one more, by the chapter's words.
func (p plain) may(x Zone) bool {
	places := []int{x.Base, x.Data, x.Read, x.End}
	for _, at := range places {
		if at&3 != 0 || at < 272 || at > 65536 {
			return false
		}
	}
	if !slices.IsSorted(places) || x.Base == x.End {
		return false
	}
	cells := slices.Concat(x.Ptrs, x.Procs)
	for i, c := range cells {
		if c&3 != 0 || c < x.Base || c >= x.Data || slices.Contains(cells[:i], c) {
			return false
		}
	}
	return !slices.ContainsFunc(p, func(y Zone) bool { return x.Base < y.End && x.End > y.Base })
}

func (p plain) with(x Zone) plain {
	l := append(slices.Clone(p), x)
	slices.SortFunc(l, func(x, y Zone) int { return x.Base - y.Base })
	return l
}

func (p plain) without(base int) plain {
	return slices.DeleteFunc(slices.Clone(p), func(x Zone) bool { return x.Base == base })
}

// around are places, and those beside them.
func around(l []int) []int {
	var places []int
	for _, at := range l {
		for n := -4; n <= 4; n++ {
			places = append(places, at+n)
		}
	}
	return places
}

// wild are numbers that are no places, some of which seem so when their highest bits are lost.
func wild() []int {
	l := []int{math.MinInt32, -1 << 32, -1<<32 + 300, -65536 + 300, -65536, -300, 65540, 65536 + 300, 1 << 17, math.MaxInt32, 1 << 32, 1<<32 + 16, 1<<32 + 300, 1<<32 + 308, 1<<32 + 336}
	for n := range 9 {
		l = append(l, math.MinInt+n, math.MaxInt-n)
	}
	return l
}

func (p plain) places() []int {
	edges := []int{0, 16, 272, 65536}
	for _, x := range p {
		edges = append(edges, x.Base, x.Data, x.Read, x.End)
		edges = slices.Concat(edges, x.Ptrs, x.Procs)
	}
	l := append(around(edges), wild()...)
	slices.Sort(l)
	return slices.Compact(l)
}

func checkPlace(t *testing.T, z *Zones, p plain, at int, sizes []int) {
	t.Helper()
	if got, want := z.CanRun(at), p.canRun(at); got != want {
		t.Fatalf("CanRun(%d) = %v, want %v, of %v", at, got, want, p)
	}
	if got, want := z.Cell(at), p.cell(at); got != want {
		t.Fatalf("Cell(%d) = %d, want %d, of %v", at, got, want, p)
	}
	for kind := -1; kind <= 3; kind++ {
		if got, want := z.Fits(kind, at), p.fits(kind, at); got != want {
			t.Fatalf("Fits(%d, %d) = %v, want %v, of %v", kind, at, got, want, p)
		}
	}
	for _, bytes := range sizes {
		if got, want := z.CanLoad(at, bytes), p.canLoad(at, bytes); got != want {
			t.Fatalf("CanLoad(%d, %d) = %v, want %v, of %v", at, bytes, got, want, p)
		}
		if got, want := z.CanStore(at, bytes), p.canStore(at, bytes); got != want {
			t.Fatalf("CanStore(%d, %d) = %v, want %v, of %v", at, bytes, got, want, p)
		}
	}
}

// checkSame holds all that zones tell, at every edge and at further places, against the chapter's words.
func checkSame(t *testing.T, z *Zones, p plain, further []int) {
	t.Helper()
	checkAll(t, z, p)
	sizes := []int{math.MinInt, -4, -1, 0, 1, 2, 3, 4, 5, 8, 12, 20, 256, math.MaxInt}
	for _, at := range append(p.places(), further...) {
		checkPlace(t, z, p, at, sizes)
	}
}

// orders are all orders of the numbers below count.
func orders(count int) [][]int {
	if count == 0 {
		return [][]int{nil}
	}
	var l [][]int
	for _, o := range orders(count - 1) {
		for i := range count {
			l = append(l, slices.Insert(slices.Clone(o), i, count-1))
		}
	}
	return l
}

// rolled are numbers that look like chance, always the same ones.
type rolled uint64

func (r *rolled) next(below int) int {
	*r = *r*6364136223846793005 + 1442695040888963407
	return int(uint64(*r) >> 33 % uint64(below))
}

func TestP6_1NoZonesAtFirst(t *testing.T) {
	z := made(t)
	checkSame(t, z, nil, nil)
	for _, base := range append([]int{0, 16, 272, 300, 65536}, wild()...) {
		checkNoRemove(t, z, nil, base)
	}
}

func TestP6_2Example(t *testing.T) {
	z := New()
	for _, bytes := range []int{1, 4} {
		if !z.CanStore(16, bytes) {
			t.Errorf("16 can't be stored, of %d bytes", bytes)
		}
		if z.CanStore(272, bytes) {
			t.Errorf("272 can be stored, of %d bytes", bytes)
		}
	}
}

func TestP6_1ZonesThatMayBe(t *testing.T) {
	for _, x := range []Zone{
		{Base: 400, Data: 420, Read: 440, End: 460},
		{Base: 400, Data: 400, Read: 440, End: 460}, // no data
		{Base: 400, Data: 420, Read: 420, End: 460}, // nothing that is only read
		{Base: 400, Data: 420, Read: 440, End: 440}, // no code
		{Base: 400, Data: 400, Read: 400, End: 404}, // code alone
		{Base: 400, Data: 400, Read: 404, End: 404}, // what is only read alone
		{Base: 400, Data: 404, Read: 404, End: 404}, // data alone
		{Base: 272, Data: 276, Read: 280, End: 284},
		{Base: 65524, Data: 65528, Read: 65532, End: 65536},
		{Base: 272, Data: 272, Read: 272, End: 65536},
		{Base: 272, Data: 65536, Read: 65536, End: 65536, Ptrs: []int{272}, Procs: []int{65532}},
		{Base: 400, Data: 420, Read: 440, End: 460, Ptrs: []int{}, Procs: []int{}},
		{Base: 400, Data: 420, Read: 440, End: 460, Ptrs: []int{400}},
		{Base: 400, Data: 420, Read: 440, End: 460, Procs: []int{400}},
		{Base: 400, Data: 420, Read: 440, End: 460, Ptrs: []int{416}},
		{Base: 400, Data: 420, Read: 440, End: 460, Procs: []int{416}},
		{Base: 400, Data: 404, Read: 440, End: 460, Ptrs: []int{400}},
		{Base: 400, Data: 420, Read: 440, End: 460, Ptrs: []int{400, 416}, Procs: []int{404, 408, 412}},
		{Base: 400, Data: 420, Read: 440, End: 460, Ptrs: []int{416, 404, 408}, Procs: []int{412, 400}},
	} {
		checkSame(t, made(t, x), plain{x}, nil)
	}
}

// More cells than an object has: this chapter has no limit for them.
func TestP6_1ManyCells(t *testing.T) {
	x := Zone{Base: 272, Data: 65000, Read: 65000, End: 65536}
	for at := 64992; at >= 272; at -= 8 {
		x.Ptrs, x.Procs = append(x.Ptrs, at), append(x.Procs, at+4)
	}
	z := made(t, x)
	checkAll(t, z, []Zone{x})
	for at := 272; at < 65000; at++ {
		want := 1
		if at%8 >= 4 {
			want = 2
		}
		if got := z.Cell(at); got != want {
			t.Fatalf("Cell(%d) = %d, want %d", at, got, want)
		}
	}
	remove(t, z, 272)
	checkSame(t, z, nil, x.Ptrs)
}

func TestP6_1R3PlacesThatMayNotBe(t *testing.T) {
	p := plain(sample())
	z := made(t, p...)
	change := func(i, at int) Zone {
		places := []int{400, 420, 440, 460}
		places[i] = at
		return Zone{Base: places[0], Data: places[1], Read: places[2], End: places[3]}
	}
	below := []int{271, 270, 269, 268, 256, 16, 12, 4, 0, -4, -400, 65537, 65538, 65540, 65544, 131072}
	for i := range 4 {
		for _, at := range append(below, wild()...) {
			checkNoAdd(t, z, p, change(i, at))
		}
		for _, n := range []int{1, 2, 3, -1, -2, -3} {
			checkNoAdd(t, z, p, change(i, 400+20*i+n))
		}
		for _, at := range []int{380, 396, 404, 416, 424, 436, 444, 456, 464, 480} {
			ahead, behind := 400+20*i-20, 400+20*i+20
			if i > 0 && at < ahead || i < 3 && at > behind {
				checkNoAdd(t, z, p, change(i, at))
			}
		}
	}
	add(t, z, change(0, 400))
}

func TestP6_1BaseEqualToEnd(t *testing.T) {
	for _, at := range []int{272, 276, 400, 65532, 65536} {
		checkNoAdd(t, made(t), nil, Zone{Base: at, Data: at, Read: at, End: at})
	}
	p := plain(sample())
	for _, at := range []int{272, 300, 308, 348, 364, 2000, 65536} {
		checkNoAdd(t, made(t, p...), p, Zone{Base: at, Data: at, Read: at, End: at})
	}
	checkNoAdd(t, made(t), nil, Zone{})
}

// All zones of four places around the limits, against the chapter's words.
func TestP6_1EveryFourPlacesAroundTheLimits(t *testing.T) {
	edges := []int{-4, 0, 4, 268, 270, 271, 272, 273, 274, 276, 280, 65531, 65532, 65535, 65536, 65537, 65540}
	for _, base := range edges {
		for _, data := range edges {
			for _, read := range edges {
				for _, end := range edges {
					x := Zone{Base: base, Data: data, Read: read, End: end}
					z := New()
					if err := z.Add(x); (err == nil) != plain(nil).may(x) {
						t.Fatalf("Add(%v): %v", x, err)
					}
				}
			}
		}
	}
}

func TestP6_1CellsThatMayNotBe(t *testing.T) {
	p := plain(sample())
	z := made(t, p...)
	wrong := []int{396, 399, 401, 402, 403, 405, 409, 413, 415, 417, 418, 419, 420, 421, 424, 440, 444, 460, 464, 0, 4, 16, 100, 268, 272, 300, 304, -4, -400, 65516, 65536}
	for _, cell := range append(wrong, wild()...) {
		for _, l := range [][]int{{cell}, {400, 404, cell}, {cell, 400, 404}, {416, cell, 400}} {
			checkNoAdd(t, z, p, Zone{Base: 400, Data: 420, Read: 440, End: 460, Ptrs: l})
			checkNoAdd(t, z, p, Zone{Base: 400, Data: 420, Read: 440, End: 460, Procs: l})
			checkNoAdd(t, z, p, Zone{Base: 400, Data: 420, Read: 440, End: 460, Ptrs: l, Procs: []int{408}})
			checkNoAdd(t, z, p, Zone{Base: 400, Data: 420, Read: 440, End: 460, Ptrs: []int{408}, Procs: l})
		}
	}
	for _, cell := range []int{396, 400, 404, 440} {
		checkNoAdd(t, z, p, Zone{Base: 400, Data: 400, Read: 440, End: 460, Ptrs: []int{cell}})
		checkNoAdd(t, z, p, Zone{Base: 400, Data: 400, Read: 440, End: 460, Procs: []int{cell}})
	}
	add(t, z, Zone{Base: 400, Data: 420, Read: 440, End: 460, Ptrs: []int{400, 404}, Procs: []int{408}})
}

func TestP6_1CellsDeclaredTwice(t *testing.T) {
	p := plain(sample())
	z := made(t, p...)
	for _, c := range []struct{ ptrs, procs []int }{
		{[]int{404, 404}, nil}, {[]int{404, 408, 404}, []int{412}}, {[]int{416, 400, 404, 416}, nil}, {[]int{400, 400, 400}, nil},
		{nil, []int{404, 404}}, {[]int{412}, []int{404, 408, 404}}, {nil, []int{416, 400, 404, 416}},
		{[]int{404}, []int{404}}, {[]int{400, 404, 408}, []int{412, 408}}, {[]int{400, 416}, []int{400, 404}}, {[]int{416}, []int{400, 404, 416}},
	} {
		checkNoAdd(t, z, p, Zone{Base: 400, Data: 420, Read: 440, End: 460, Ptrs: c.ptrs, Procs: c.procs})
	}
	add(t, z, Zone{Base: 400, Data: 420, Read: 440, End: 460, Ptrs: []int{404}, Procs: []int{408}})
}

func TestP6_1BytesOfAnotherZone(t *testing.T) {
	p := plain{{Base: 400, Data: 420, Read: 440, End: 460, Ptrs: []int{404}, Procs: []int{408}}, {Base: 500, Data: 504, Read: 508, End: 512}}
	z := made(t, p...)
	for _, c := range []struct{ base, end int }{
		{400, 460}, {400, 404}, {456, 460}, {404, 456}, {420, 440}, {408, 412}, // the same, or inside
		{396, 464}, {272, 65536}, {396, 460}, {400, 464}, {272, 484}, // around
		{396, 404}, {272, 404}, {396, 456}, {456, 464}, {456, 500}, {404, 464}, {440, 480}, // one end of it
		{456, 504}, {480, 504}, {508, 516}, {460, 504}, {460, 516}, {500, 512}, {508, 65536}, // the other one's, or both's
	} {
		checkNoAdd(t, z, p, Zone{Base: c.base, Data: c.end, Read: c.end, End: c.end})
		checkNoAdd(t, z, p, Zone{Base: c.base, Data: c.base, Read: c.base, End: c.end})
		checkNoAdd(t, z, p, Zone{Base: c.base, Data: c.end, Read: c.end, End: c.end, Ptrs: []int{c.base}})
		checkNoAdd(t, z, p, Zone{Base: c.base, Data: c.end, Read: c.end, End: c.end, Procs: []int{c.end - 4}})
	}
	for _, x := range []Zone{
		{Base: 460, Data: 480, Read: 488, End: 500, Ptrs: []int{460}, Procs: []int{476}}, // fills all between two
		{Base: 272, Data: 396, Read: 396, End: 400, Procs: []int{272}},
		{Base: 512, Data: 512, Read: 516, End: 65536},
	} {
		add(t, z, x)
		p = p.with(x)
		checkSame(t, z, p, nil)
	}
}

// Every two blocks of a few words, however they lie to each other.
func TestP6_1EveryTwoSmallBlocks(t *testing.T) {
	block := func(from, to int) Zone {
		return Zone{Base: 400 + 4*from, Data: 400 + 4*from, Read: 400 + 4*to, End: 400 + 4*to}
	}
	const words = 6
	for a := range words {
		for b := a + 1; b <= words; b++ {
			for c := range words {
				for d := c + 1; d <= words; d++ {
					x, y := block(a, b), block(c, d)
					z := made(t, x)
					if d <= a || b <= c {
						add(t, z, y)
						checkAll(t, z, plain{x}.with(y))
					} else {
						checkNoAdd(t, z, plain{x}, y)
					}
				}
			}
		}
	}
}

func TestP6_1Remove(t *testing.T) {
	for i, x := range sample() {
		p := plain(sample())
		z := made(t, p...)
		for _, base := range append([]int{0, 16, 272, 296, x.Base - 4, x.Base - 1, x.Base + 1, x.Base + 2, x.Base + 3, x.Base + 4, x.Read, x.End - 4, x.End - 1, 364, 65532, 65536}, wild()...) {
			if !slices.ContainsFunc(p, func(y Zone) bool { return y.Base == base }) {
				checkNoRemove(t, z, p, base)
			}
		}
		remove(t, z, x.Base)
		p = slices.Delete(p, i, i+1)
		checkSame(t, z, p, []int{x.Base, x.Data, x.Read, x.End - 4})
		checkSame(t, z, p, append(around(x.Ptrs), around(x.Procs)...))
		checkNoRemove(t, z, p, x.Base)
		checkNoRemove(t, z, p, x.Read)
	}
}

func TestP6_1RemovedInEveryOrder(t *testing.T) {
	for _, order := range orders(4) {
		p := plain(sample())
		z := made(t, p...)
		for _, i := range order {
			x := sample()[i]
			remove(t, z, x.Base)
			p = p.without(x.Base)
			checkSame(t, z, p, []int{x.Base, x.Data, x.Read, x.End - 4})
		}
		checkAll(t, z, nil)
	}
}

func TestP6_1AddedAgainWithOtherCells(t *testing.T) {
	first := Zone{Base: 400, Data: 420, Read: 440, End: 460, Ptrs: []int{400, 416}, Procs: []int{408}}
	beside := Zone{Base: 460, Data: 480, Read: 480, End: 500, Ptrs: []int{460}, Procs: []int{464}}
	z := made(t, first, beside)
	for _, x := range []Zone{
		{Base: 400, Data: 420, Read: 440, End: 460, Ptrs: []int{408}, Procs: []int{400, 404}}, // the other way round
		{Base: 400, Data: 420, Read: 440, End: 460},                                           // none
		{Base: 400, Data: 420, Read: 440, End: 460, Ptrs: []int{412}},
		{Base: 400, Data: 404, Read: 408, End: 412, Procs: []int{400}}, // a smaller one
		{Base: 400, Data: 400, Read: 440, End: 460},                    // no data where cells were
		first,
	} {
		checkNoAdd(t, z, z.All(), x)
		remove(t, z, 400)
		add(t, z, x)
		checkSame(t, z, plain{x, beside}, around([]int{400, 404, 408, 412, 416}))
	}
}

func TestP6_1AllRise(t *testing.T) {
	l := append(sample(), Zone{Base: 272, Data: 276, Read: 276, End: 300, Ptrs: []int{272}})
	for _, order := range orders(len(l)) {
		z := New()
		var p plain
		for _, i := range order {
			add(t, z, l[i])
			p = p.with(l[i])
			checkAll(t, z, p)
		}
		checkPlace(t, z, p, 272, nil)
		checkPlace(t, z, p, 316, nil)
		checkPlace(t, z, p, 65520, nil)
	}
}

func TestP6_1ManyZones(t *testing.T) {
	z := New()
	var want []Zone
	for base := 65520; base >= 272; base -= 16 {
		x := Zone{Base: base, Data: base + 4, Read: base + 8, End: base + 16, Ptrs: []int{base}}
		add(t, z, x)
		want = append(want, x)
	}
	slices.Reverse(want)
	checkAll(t, z, want)
	for _, x := range want {
		checkPlace(t, z, plain{x}, x.Base, []int{1, 4, 5, 8, 9})
		checkPlace(t, z, plain{x}, x.End-4, []int{1, 4, 5, 8, 9})
		if err := z.Add(Zone{Base: x.Base, Data: x.Base, Read: x.Base, End: x.Base + 4}); err == nil {
			t.Fatalf("Add at %d was done twice", x.Base)
		}
	}
	for _, x := range want {
		remove(t, z, x.Base)
	}
	checkSame(t, z, nil, nil)
}

// rolledZone is one that mostly may be, if nothing lies there.
func rolledZone(r *rolled) Zone {
	x := Zone{Base: 264 + 4*r.next(60)}
	x.Data = x.Base + 4*r.next(6)
	x.Read = x.Data + 4*r.next(3)
	x.End = x.Read + 4*r.next(3)
	for at := x.Base; at < x.Data; at += 4 {
		switch r.next(4) {
		case 0:
			x.Ptrs = slices.Insert(x.Ptrs, r.next(len(x.Ptrs)+1), at)
		case 1:
			x.Procs = slices.Insert(x.Procs, r.next(len(x.Procs)+1), at)
		}
	}
	switch r.next(12) {
	case 0:
		x.Ptrs = append(x.Ptrs, x.Base+r.next(24))
	case 1:
		x.Procs = append(x.Procs, x.Base+r.next(24))
	case 2:
		x.Data += r.next(8)
	case 3:
		x.Read -= r.next(8)
	case 4:
		x.End += 1 - r.next(8)
	}
	return x
}

// Many calls, right and wrong ones, one after the other, each held against the chapter's words.
func TestP6_1P6_2LongRuns(t *testing.T) {
	r := rolled(6)
	z, p := New(), plain(nil)
	added, refused, removed := 0, 0, 0
	for range 6000 {
		x := rolledZone(&r)
		if p.may(x) {
			add(t, z, x)
			p = p.with(x)
			added++
		} else {
			checkNoAdd(t, z, p, x)
			refused++
		}
		base := 264 + 4*r.next(60)
		had := len(p)
		p = p.without(base)
		if z.Remove(base) != (len(p) < had) {
			t.Fatalf("Remove(%d) of %v", base, z.All())
		}
		removed += had - len(p)
		checkAll(t, z, p)
		for at := 256; at < 560; at += 1 + r.next(3) {
			checkPlace(t, z, p, at, []int{0, 1, 4, 8, 11})
		}
	}
	if added < 500 || refused < 500 || removed < 500 {
		t.Errorf("%d zones were added, %d refused, %d removed: too few to tell", added, refused, removed)
	}
}

// The stack, at both its ends, with no zone and with one that begins right behind it.
func TestP6_2TheStack(t *testing.T) {
	behind := Zone{Base: 272, Data: 280, Read: 284, End: 288}
	for _, z := range []*Zones{made(t), made(t, behind)} {
		for _, c := range []struct {
			at, bytes int
			can       bool
		}{
			{16, 1, true}, {16, 4, true}, {16, 256, true}, {16, 255, true}, {17, 255, true}, {271, 1, true}, {268, 4, true}, {270, 2, true}, {100, 100, true}, {101, 4, true},
			{16, 0, false}, {100, 0, false}, {272, 0, false}, {100, -1, false}, {100, -4, false}, {272, -4, false}, {271, -1, false}, {100, math.MinInt, false},
			{15, 1, false}, {15, 2, false}, {12, 4, false}, {12, 8, false}, {15, 257, false}, {0, 1, false}, {0, 4, false}, {0, 16, false}, {0, 272, false}, {-4, 4, false}, {-4, 272, false},
			{16, 257, false}, {17, 256, false}, {271, 2, false}, {269, 4, false}, {268, 5, false}, {268, 8, false}, {16, 260, false}, {16, 264, false}, {200, 80, false},
			{16, math.MaxInt, false}, {271, math.MaxInt, false}, {100, math.MaxInt - 100, false}, {100, math.MaxInt - 99, false}, {100, 1 << 32, false}, {100, 1<<32 + 4, false},
		} {
			if got := z.CanLoad(c.at, c.bytes); got != c.can {
				t.Errorf("CanLoad(%d, %d) = %v, of %v", c.at, c.bytes, got, z.All())
			}
			if got := z.CanStore(c.at, c.bytes); got != c.can {
				t.Errorf("CanStore(%d, %d) = %v, of %v", c.at, c.bytes, got, z.All())
			}
		}
	}
}

// Within a zone, across Data, Read and End, and across two zones that touch.
func TestP6_2WhatCanBeLoadedAndStored(t *testing.T) {
	z := made(t, sample()...)
	for _, c := range []struct {
		at, bytes   int
		load, store bool
	}{
		{300, 1, true, true}, {300, 4, true, true}, {300, 20, true, true}, {319, 1, true, true}, {316, 4, true, true}, {317, 3, true, true}, {301, 4, true, true}, // data
		{320, 1, true, false}, {320, 4, true, false}, {320, 12, true, false}, {331, 1, true, false}, {328, 4, true, false}, // what is only read
		{319, 2, true, false}, {316, 5, true, false}, {316, 8, true, false}, {300, 21, true, false}, {300, 32, true, false}, {318, 4, true, false}, // both
		{300, 33, false, false}, {328, 5, false, false}, {331, 2, false, false}, {320, 13, false, false}, {330, 4, false, false}, {300, 48, false, false}, // code, too
		{332, 1, false, false}, {332, 4, false, false}, {347, 1, false, false}, {344, 4, false, false}, {336, 1, false, false}, // code
		{299, 1, false, false}, {299, 2, false, false}, {296, 4, false, false}, {296, 8, false, false}, {298, 4, false, false}, // ahead of it
		{347, 2, false, false}, {344, 8, false, false}, {300, 60, false, false}, // the first zone's code, and the other's data
		{348, 12, true, true}, {348, 13, false, false}, {356, 4, true, true}, {359, 2, false, false}, {360, 4, false, false}, {364, 1, false, false}, {364, 4, false, false}, // the other zone
		{1000, 1, true, false}, {1000, 8, true, false}, {1000, 9, false, false}, {1008, 1, false, false}, {999, 1, false, false}, {1004, 4, true, false},
		{65516, 8, true, true}, {65516, 12, true, false}, {65516, 20, false, false}, {65524, 4, true, false}, {65528, 4, false, false}, {65535, 1, false, false}, {65536, 1, false, false}, {65536, 4, false, false},
		{300, 0, false, false}, {300, -1, false, false}, {320, 0, false, false}, {304, -4, false, false}, {320, -4, false, false}, {332, -4, false, false},
		{300, math.MaxInt, false, false}, {300, math.MaxInt - 300, false, false}, {300, math.MaxInt - 299, false, false}, {304, math.MinInt, false, false}, {304, math.MinInt + 304, false, false},
		{math.MaxInt, 1, false, false}, {math.MaxInt - 3, 4, false, false}, {math.MaxInt, math.MaxInt, false, false}, {math.MinInt, 1, false, false}, {math.MinInt, math.MinInt, false, false}, {math.MinInt, math.MaxInt, false, false},
		{1<<32 + 300, 4, false, false}, {300, 1<<32 + 4, false, false}, {-1<<32 + 300, 4, false, false}, {-300, 4, false, false}, {-4, 4, false, false}, {-4, 400, false, false},
	} {
		if got := z.CanLoad(c.at, c.bytes); got != c.load {
			t.Errorf("CanLoad(%d, %d) = %v", c.at, c.bytes, got)
		}
		if got := z.CanStore(c.at, c.bytes); got != c.store {
			t.Errorf("CanStore(%d, %d) = %v", c.at, c.bytes, got)
		}
	}
}

// What lies one behind the other, and could all be loaded and stored, is still of two zones.
func TestP6_2AcrossTwoZonesOfData(t *testing.T) {
	z := made(t, Zone{Base: 272, Data: 280, Read: 280, End: 280}, Zone{Base: 280, Data: 288, Read: 288, End: 288}, Zone{Base: 288, Data: 288, Read: 296, End: 296})
	for _, c := range []struct {
		at, bytes   int
		load, store bool
	}{
		{272, 8, true, true}, {280, 8, true, true}, {288, 8, true, false},
		{272, 9, false, false}, {272, 16, false, false}, {276, 8, false, false}, {279, 2, false, false}, {278, 4, false, false},
		{280, 9, false, false}, {287, 2, false, false}, {284, 8, false, false}, {272, 24, false, false},
		{271, 2, false, false}, {268, 8, false, false}, {16, 272, false, false},
	} {
		if got := z.CanLoad(c.at, c.bytes); got != c.load {
			t.Errorf("CanLoad(%d, %d) = %v", c.at, c.bytes, got)
		}
		if got := z.CanStore(c.at, c.bytes); got != c.store {
			t.Errorf("CanStore(%d, %d) = %v", c.at, c.bytes, got)
		}
	}
}

func TestP6_2CanRun(t *testing.T) {
	z := made(t, sample()...)
	can := []int{332, 336, 340, 344, 360, 65528, 65532}
	for at := -8; at <= 65544; at++ {
		if got := z.CanRun(at); got != slices.Contains(can, at) {
			t.Errorf("CanRun(%d) = %v", at, got)
		}
	}
	for _, at := range wild() {
		if z.CanRun(at) {
			t.Errorf("CanRun(%d)", at)
		}
	}
	none := made(t, Zone{Base: 400, Data: 420, Read: 440, End: 440})
	for at := 396; at <= 444; at++ {
		if none.CanRun(at) {
			t.Errorf("CanRun(%d), in a zone without code", at)
		}
	}
}

func TestP6_2Cell(t *testing.T) {
	z := made(t, sample()...)
	want := map[int]int{}
	for cell, kind := range map[int]int{300: 1, 316: 1, 308: 2, 356: 2, 348: 2, 65520: 1, 65516: 1} {
		for n := range 4 {
			want[cell+n] = kind
		}
	}
	for at := -8; at <= 65544; at++ {
		if got := z.Cell(at); got != want[at] {
			t.Errorf("Cell(%d) = %d, want %d", at, got, want[at])
		}
	}
	for _, at := range wild() {
		if got := z.Cell(at); got != 0 {
			t.Errorf("Cell(%d) = %d, want 0", at, got)
		}
	}
}

func TestP6_2Fits(t *testing.T) {
	z := made(t, sample()...)
	for _, c := range []struct {
		value     int
		ptr, proc bool
	}{
		{0, true, true},
		{300, true, false}, {301, true, false}, {319, true, false}, {320, true, false}, {331, true, false}, // Base, data, what is only read
		{332, false, true}, {336, false, true}, {344, false, true}, {333, false, false}, {334, false, false}, {335, false, false}, {347, false, false}, // Read, code
		{299, false, false}, {296, false, false}, {364, false, false}, {365, false, false}, // no zone's
		{348, true, false}, {359, true, false}, {360, false, true}, {361, false, false},
		{1000, true, false}, {1007, true, false}, {1008, false, false},
		{65516, true, false}, {65527, true, false}, {65528, false, true}, {65532, false, true}, {65535, false, false}, {65536, false, false}, {65540, false, false},
		{1, false, false}, {4, false, false}, {15, false, false}, {16, false, false}, {100, false, false}, {268, false, false}, {271, false, false}, {272, false, false}, // the stack, too
		{-1, false, false}, {-4, false, false}, {-300, false, false}, {-332, false, false}, {math.MinInt, false, false}, {math.MaxInt, false, false}, {math.MaxInt - 3, false, false},
		{1<<32 + 300, false, false}, {1<<32 + 332, false, false}, {-1<<32 + 332, false, false}, {1 << 32, false, false}, {math.MinInt32, false, false},
	} {
		for _, kind := range []int{-1, 3, 4, -2, 255, 256, 257, 258, 1 << 32, 1<<32 + 1, math.MinInt, math.MaxInt} {
			if z.Fits(kind, c.value) {
				t.Errorf("Fits(%d, %d)", kind, c.value)
			}
		}
		if !z.Fits(0, c.value) {
			t.Errorf("Fits(0, %d) is false", c.value)
		}
		if got := z.Fits(1, c.value); got != c.ptr {
			t.Errorf("Fits(1, %d) = %v", c.value, got)
		}
		if got := z.Fits(2, c.value); got != c.proc {
			t.Errorf("Fits(2, %d) = %v", c.value, got)
		}
	}
}

// All places that there are, and those around them.
func TestP6_2EveryPlace(t *testing.T) {
	p := plain(sample())
	z := made(t, p...)
	for at := -300; at <= 65536+300; at++ {
		checkPlace(t, z, p, at, []int{-1, 0, 1, 2, 3, 4, 5, 8, 256})
	}
	sizes := wild()
	for bytes := -20; bytes <= 300; bytes++ {
		sizes = append(sizes, bytes)
	}
	for _, at := range p.places() {
		checkPlace(t, z, p, at, sizes)
	}
}

func TestP6_3R2WhatIsHandedInIsNotChanged(t *testing.T) {
	z := New()
	// What stands behind the lists' ends may be overwritten by an append to them.
	ptrs, procs := []int{416, 400, 404, 1, 2}, []int{412, 408, 3, 4}
	x := Zone{Base: 400, Data: 420, Read: 440, End: 460, Ptrs: ptrs[:3], Procs: procs[:2]}
	add(t, z, x)
	checkNoAdd(t, z, plain{x}, x)
	remove(t, z, 400)
	x.Procs = procs[:3]
	checkNoAdd(t, z, nil, x)
	if !slices.Equal(ptrs, []int{416, 400, 404, 1, 2}) || !slices.Equal(procs, []int{412, 408, 3, 4}) {
		t.Errorf("Add changed its lists: %v, %v", ptrs, procs)
	}
}

func TestP6_3R2WhatIsHandedInIsNotKept(t *testing.T) {
	z := New()
	x := Zone{Base: 400, Data: 420, Read: 440, End: 460, Ptrs: []int{416, 400}, Procs: []int{408, 412}}
	want := plain{{Base: 400, Data: 420, Read: 440, End: 460, Ptrs: []int{416, 400}, Procs: []int{408, 412}}}
	add(t, z, x)
	x.Ptrs[0], x.Ptrs[1], x.Procs[0], x.Procs[1] = 404, 500, 400, -4
	checkSame(t, z, want, around([]int{404, 500, -4}))
	remove(t, z, 400)
	checkSame(t, z, nil, around([]int{400, 404, 408, 412, 416}))
	add(t, z, want[0])
	checkSame(t, z, want, nil)
}

// Lists of several zones that share memory with each other, as pieces of one list.
func TestP6_3R2ListsThatShareMemory(t *testing.T) {
	shared := []int{400, 404, 460, 464}
	z := made(t,
		Zone{Base: 400, Data: 420, Read: 440, End: 460, Ptrs: shared[:1], Procs: shared[1:2]},
		Zone{Base: 460, Data: 480, Read: 480, End: 500, Ptrs: shared[2:3], Procs: shared[3:]})
	want := plain{
		{Base: 400, Data: 420, Read: 440, End: 460, Ptrs: []int{400}, Procs: []int{404}},
		{Base: 460, Data: 480, Read: 480, End: 500, Ptrs: []int{460}, Procs: []int{464}},
	}
	if !slices.Equal(shared, []int{400, 404, 460, 464}) {
		t.Fatalf("Add changed its lists: %v", shared)
	}
	clear(shared)
	checkSame(t, z, want, nil)
}

func TestP6_3R2AllIsNewMemory(t *testing.T) {
	p := plain(sample())
	z := made(t, p...)
	first, second := z.All(), z.All()
	for i := range first {
		// What is appended would be written behind a list, if the answer were a piece of one that is kept, or told beside it.
		_, _ = append(first[i].Ptrs, 1), append(first[i].Procs, 2)
		if !slices.EqualFunc(first, p, sameZone) {
			t.Fatalf("two lists of one answer share memory: %v", first)
		}
		clear(first[i].Ptrs[:cap(first[i].Ptrs)])
		clear(first[i].Procs[:cap(first[i].Procs)])
		first[i].Ptrs, first[i].Procs = slices.Clone(p[i].Ptrs), slices.Clone(p[i].Procs)
	}
	_ = append(first, Zone{Base: 1})
	clear(first[:cap(first)])
	if !slices.EqualFunc(second, p, sameZone) {
		t.Errorf("two answers of All share memory: %v", second)
	}
	checkSame(t, z, p, nil)
	for _, x := range p {
		remove(t, z, x.Base)
	}
	add(t, z, Zone{Base: 300, Data: 320, Read: 332, End: 348, Ptrs: []int{304}, Procs: []int{312}})
	if !slices.EqualFunc(second, p, sameZone) {
		t.Errorf("what All told was changed by what was done later: %v", second)
	}
}

func TestP6_3ZonesAreApart(t *testing.T) {
	x := sample()[0]
	first, second := made(t, x), made(t)
	checkSame(t, second, nil, around(x.Ptrs))
	add(t, second, Zone{Base: 300, Data: 320, Read: 332, End: 348, Procs: []int{300}})
	remove(t, second, 300)
	checkSame(t, first, plain{x}, nil)
}

func TestP6_4WhatCanBeStoredCanBeLoaded(t *testing.T) {
	z := made(t, sample()...)
	stored := 0
	for at := 0; at <= 1100; at++ {
		for bytes := -2; bytes <= 280; bytes++ {
			if !z.CanStore(at, bytes) {
				continue
			}
			stored++
			if !z.CanLoad(at, bytes) {
				t.Fatalf("CanStore(%d, %d), but it can't be loaded", at, bytes)
			}
		}
	}
	if stored == 0 {
		t.Error("nothing can be stored")
	}
}

// No bytes that lie in part where an instruction can be can be loaded.
func TestP6_4WhereAnInstructionCanBeNothingCanBeLoaded(t *testing.T) {
	z := made(t, sample()...)
	run := 0
	for at := 0; at <= 65540; at++ {
		if !z.CanRun(at) {
			continue
		}
		run++
		for from := at - 300; from < at+4; from++ {
			for bytes := max(1, at-from+1); bytes <= at-from+40; bytes++ {
				if z.CanLoad(from, bytes) || z.CanStore(from, bytes) {
					t.Fatalf("CanRun(%d), but %d bytes from %d on can be loaded, or stored", at, bytes, from)
				}
			}
		}
	}
	if run != 7 {
		t.Errorf("instructions can be at %d places, want 7", run)
	}
}

func TestP1NoneOfTheCallsPanics(t *testing.T) {
	numbers := append(wild(), -1, 0, 1, 2, 3, 4, 16, 271, 272, 300, 303, 348, 364, 65535, 65536)
	for _, z := range []*Zones{New(), made(t, sample()...)} {
		for _, x := range numbers {
			z.CanRun(x)
			z.Cell(x)
			for _, y := range numbers {
				z.CanLoad(x, y)
				z.CanStore(x, y)
				z.Fits(x, y)
				z.Add(Zone{Base: x, Data: y, Read: x, End: y, Ptrs: []int{x}, Procs: []int{y}})
				z.Add(Zone{Base: 272, Data: 276, Read: x, End: y, Ptrs: []int{x, x}, Procs: []int{y, y}})
				z.Add(Zone{Base: 2000, Data: 2040, Read: 2040, End: 2044, Ptrs: []int{x}, Procs: []int{y}})
			}
			z.All()
			z.Remove(x)
		}
	}
}
