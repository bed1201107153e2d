package symbol

import (
	"dowel/api"
	"strings"
)

// plain is a world in the chapter's words: each byte of a block has a letter for its part, and each word is a value by its place.
type plain struct {
	mods  []*plainMod
	stack map[int]Value // by numbers
}

// Letters of a block's bytes.
const (
	isData = 'd'
	isType = 't'
	isText = 'x'
	isCode = 'c'
)

type plainMod struct {
	x       *source
	imports []int
	parts   string        // a letter for each byte
	words   map[int]Value // by places
	refs    map[int]Value // by places
	lines   [][]Value     // the types'
}

func plainOf() *plain { return &plain{stack: map[int]Value{}} }

func (p *plain) has(mod int) bool { return mod >= 1 && mod <= len(p.mods) }

// add adds a module, or tells the error.
func (p *plain) add(x *source, imports []int) (int, error) {
	if x.wrong {
		return 0, api.ErrForm
	}
	if len(imports) != len(x.o.Imports) {
		return 0, api.ErrArg
	}
	for _, n := range imports {
		if !p.has(n) {
			return 0, api.ErrArg
		}
	}
	m := &plainMod{x: x, imports: imports, words: map[int]Value{}, refs: map[int]Value{}}
	m.parts = strings.Repeat("dddd", x.o.Data) + strings.Repeat("tttt", 4*len(x.o.Types)) + strings.Repeat("x", (len(x.o.Text)+3)/4*4) + strings.Repeat("cccc", len(x.o.Code))
	own := len(p.mods) + 1
	p.mods = append(p.mods, m)
	if !p.linked(m, own) {
		p.mods = p.mods[:own-1]
		return 0, api.ErrForm
	}
	return own, nil
}

// linked links the last module, or tells that it can't be.
func (p *plain) linked(m *plainMod, own int) bool {
	for i, imp := range m.x.o.Imports {
		if p.mods[m.imports[i]-1].x.o.Key != imp.Key {
			return false
		}
	}
	at := strings.IndexRune(m.parts, isType)
	for i, typ := range m.x.o.Types {
		var line []Value
		switch {
		case typ.Mod > 0:
			l, ok := p.lineOf(m.imports[typ.Mod-1], typ.Base)
			if !ok {
				return false
			}
			line = append(line, l...)
		case typ.Base >= 0:
			line = append(line, m.lines[typ.Base]...)
		}
		if len(line) > 3 {
			return false
		}
		m.words[at+16*i] = Value{N: typ.Size}
		for k, v := range line {
			m.words[at+16*i+4+4*k] = v
		}
		m.lines = append(m.lines, append(line, Value{own, at + 16*i}))
	}
	code := strings.IndexRune(m.parts, isCode)
	text := code - (len(m.x.o.Text)+3)/4*4
	for i, b := range []byte(m.x.o.Text) {
		word := m.words[text+i/4*4]
		word.N += int(b) << (i % 4 * 8)
		word.N = int(int32(uint32(word.N)))
		m.words[text+i/4*4] = word
	}
	for _, r := range m.x.refs {
		mod := own
		if r.mod > 0 && r.mod < 15 {
			mod = m.imports[r.mod-1]
		}
		kind, place, ok := p.exportOf(mod, r.ent)
		if r.mod == 15 {
			kind, place, ok = api.Var, Value{own, text + r.ent}, true
		}
		right := []bool{kind == api.Proc, kind == api.Proc || kind == api.Var, kind == api.Rec}[r.which]
		if !ok || !right {
			return false
		}
		m.refs[code+4*r.at] = place
	}
	return true
}

// exportOf is a module's export: its kind, and where it lies.
func (p *plain) exportOf(mod, n int) (int, Value, bool) {
	m := p.mods[mod-1]
	if n >= len(m.x.o.Exports) {
		return 0, Value{}, false
	}
	e := m.x.o.Exports[n]
	switch e.Kind {
	case api.Proc:
		return e.Kind, Value{mod, strings.IndexRune(m.parts, isCode) + 4*e.At}, true
	case api.Var:
		return e.Kind, Value{mod, 4 * e.At}, true
	}
	return e.Kind, m.lines[e.At][len(m.lines[e.At])-1], true
}

// lineOf is the line of a type that a module exports.
func (p *plain) lineOf(mod, n int) ([]Value, bool) {
	m := p.mods[mod-1]
	if n >= len(m.x.o.Exports) || m.x.o.Exports[n].Kind != api.Rec {
		return nil, false
	}
	return m.lines[m.x.o.Exports[n].At], true
}

func (p *plain) data(mod int) []Value {
	if !p.has(mod) {
		return nil
	}
	m := p.mods[mod-1]
	var l []Value
	for i := range m.x.o.Data {
		l = append(l, m.words[4*i])
	}
	return l
}

// plainState is code under way.
type plainState struct {
	r  [16]Value
	at Value
}

func (p *plain) call(mod, at, fuel int) api.Outcome {
	if !p.has(mod) || at < 0 || at >= len(p.mods[mod-1].x.o.Code) {
		return api.Outcome{End: api.Trapped, Trap: api.TrapJump}
	}
	s := &plainState{at: Value{mod, strings.IndexRune(p.mods[mod-1].parts, isCode) + 4*at}}
	s.r[14], s.r[15] = Value{N: 272}, Value{N: -4}
	steps := 0
	for {
		if s.at.Mod == 0 && s.at.N == -4 {
			return api.Outcome{End: api.Done, Steps: steps}
		}
		if steps >= fuel || steps >= 2000 {
			return api.Outcome{End: api.Fuel, Steps: steps}
		}
		if trap := p.step(s); trap != 0 {
			return api.Outcome{End: api.Trapped, Trap: trap, Steps: steps}
		}
		steps++
	}
}

// part is the letter of a byte of a block; 0, if it hasn't that byte.
func (p *plain) part(v Value) byte {
	m := p.mods[v.Mod-1]
	if v.N < 0 || v.N >= len(m.parts) {
		return 0
	}
	return m.parts[v.N]
}

// kind is 1 of a word that points, 2 of one that tells code.
func (p *plain) kind(v Value) int {
	if v.Mod == 0 {
		return 0
	}
	o := p.mods[v.Mod-1].x.o
	for _, w := range o.Ptrs {
		if v.N/4 == w {
			return 1
		}
	}
	for _, w := range o.Procs {
		if v.N/4 == w {
			return 2
		}
	}
	return 0
}

func (p *plain) get(v Value) Value {
	v.N = v.N / 4 * 4
	if v.Mod == 0 {
		return p.stack[v.N]
	}
	return p.mods[v.Mod-1].words[v.N]
}

func (p *plain) set(v, to Value) {
	v.N = v.N / 4 * 4
	if v.Mod == 0 {
		p.stack[v.N] = to
		return
	}
	p.mods[v.Mod-1].words[v.N] = to
}

// low tells whether a number, without its sign, is below so much.
func low(v Value, than int) bool { return v.N >= 0 && v.N < than }

// mayReach is the trap of bytes of which one is at v.
func (p *plain) mayReach(v Value, bytes int, store bool) int {
	if bytes == 4 && (v.N%4+4)%4 != 0 {
		return api.TrapAlign
	}
	if v.Mod == 0 {
		switch {
		case low(v, 16):
			return api.TrapRange
		case low(v, 272):
			return 0
		}
		return api.TrapMix
	}
	for i := range bytes {
		if p.part(Value{v.Mod, v.N + i}) == 0 {
			return api.TrapMix
		}
	}
	for i := range bytes {
		letter := p.part(Value{v.Mod, v.N + i})
		if letter == isCode || store && letter != isData {
			return api.TrapRange
		}
	}
	return 0
}

// mayHave is the trap of a word of a kind that would be v.
func (p *plain) mayHave(kind int, v Value) int {
	switch {
	case kind == 0 || v.Mod == 0 && v.N == 0:
		return 0
	case v.Mod == 0 && low(v, 272):
		return api.TrapPointer
	case v.Mod == 0:
		return api.TrapMix
	}
	switch letter := p.part(v); {
	case letter == 0:
		return api.TrapMix
	case kind == 1 && letter != isCode, kind == 2 && letter == isCode && v.N%4 == 0:
		return 0
	}
	return api.TrapPointer
}

// step is one step; a trap that isn't 0 leaves all as it was.
func (p *plain) step(s *plainState) int {
	if s.at.Mod == 0 {
		if low(s.at, 272) {
			return api.TrapJump
		}
		return api.TrapMix
	}
	switch p.part(s.at) {
	case 0:
		return api.TrapMix
	case isData, isType, isText:
		return api.TrapJump
	}
	if s.at.N%4 != 0 {
		return api.TrapJump
	}
	m := p.mods[s.at.Mod-1]
	w := m.x.o.Code[(s.at.N-strings.IndexRune(m.parts, isCode))/4]
	op, a, b, n := int(w>>26), int(w>>22&15), int(w>>18&15), int(int32(w<<14)>>14)
	if op < 1 || op > 21 || op >= 2 && op <= 10 && (n < 0 || n > 15) {
		return api.TrapCode
	}
	ref, refers := m.refs[s.at.N]
	here := s.at
	next := Value{here.Mod, here.N + 4}
	there := Value{here.Mod, here.N + 4 + 4*n}
	if refers && op == api.Call {
		there = ref
	}
	var trap int
	switch op {
	case api.Set:
		s.r[a] = Value{N: n}
		if refers {
			s.r[a] = ref
		}
	case api.More:
		trap = p.reckon(s, a, api.Add, s.r[b], Value{N: n})
	case api.Load, api.LoadB, api.Store, api.StorB:
		at := Value{s.r[b].Mod, s.r[b].N + n}
		if at.Mod == 0 {
			at.N = wrap(int64(at.N))
		}
		trap = p.move(s, op, a, at)
	case api.Same, api.Other, api.Less:
		var met bool
		if met, trap = p.meets(op, s.r[a], s.r[b]); met {
			next = there
		}
	case api.Jump:
		next = there
	case api.Call:
		s.r[a] = next
		next = there
	case api.Go:
		next = s.r[a]
	default:
		trap = p.reckon(s, a, op, s.r[b], s.r[n])
	}
	if trap == 0 {
		s.at = next
	}
	return trap
}

// move does a load or a store.
func (p *plain) move(s *plainState, op, a int, at Value) int {
	bytes := 4
	if op == api.LoadB || op == api.StorB {
		bytes = 1
	}
	if trap := p.mayReach(at, bytes, op == api.Store || op == api.StorB); trap != 0 {
		return trap
	}
	word, kind, shift := p.get(at), p.kind(at), at.N%4*8
	switch op {
	case api.Load:
		s.r[a] = word
	case api.LoadB:
		if word.Mod != 0 {
			return api.TrapMix
		}
		s.r[a] = Value{N: int(uint32(word.N) >> shift & 255)}
	case api.Store:
		if trap := p.mayHave(kind, s.r[a]); trap != 0 {
			return trap
		}
		p.set(at, s.r[a])
	case api.StorB:
		switch {
		case kind != 0:
			return api.TrapPointer
		case word.Mod != 0 || s.r[a].Mod != 0:
			return api.TrapMix
		}
		old := int64(uint32(word.N) >> shift & 255)
		p.set(at, Value{N: wrap(int64(word.N) + (int64(s.r[a].N&255)-old)<<shift)})
	}
	return 0
}

// wrap is a number modulo 2^32, with a sign.
func wrap(n int64) int {
	n = (n%(1<<32) + 1<<32) % (1 << 32)
	if n >= 1<<31 {
		n -= 1 << 32
	}
	return int(n)
}

func (p *plain) reckon(s *plainState, a, op int, x, y Value) int {
	v, trap := p.comes(op, x, y)
	if trap == 0 {
		s.r[a] = v
	}
	return trap
}

// comes is what an op comes to.
func (p *plain) comes(op int, x, y Value) (Value, int) {
	if x.Mod == 0 && y.Mod == 0 {
		return plainNumber(op, int64(x.N), int64(y.N))
	}
	if op == api.Sub && x.Mod == y.Mod {
		return Value{N: x.N - y.N}, 0
	}
	var v Value
	switch {
	case op == api.Add && x.Mod == 0:
		v = Value{y.Mod, y.N + x.N}
	case op == api.Add && y.Mod == 0:
		v = Value{x.Mod, x.N + y.N}
	case op == api.Sub && y.Mod == 0:
		v = Value{x.Mod, x.N - y.N}
	default:
		return Value{}, api.TrapMix
	}
	if v.N < 0 || v.N > len(p.mods[v.Mod-1].parts) {
		return Value{}, api.TrapMix
	}
	return v, 0
}

func plainNumber(op int, x, y int64) (Value, int) {
	bits := uint64(y) % 32
	switch op {
	case api.Add:
		x += y
	case api.Sub:
		x -= y
	case api.Mul:
		x *= y
	case api.Div:
		if y == 0 {
			return Value{}, api.TrapDivide
		}
		x /= y
	case api.And:
		x &= y
	case api.Or:
		x |= y
	case api.Xor:
		x ^= y
	case api.Shl:
		x <<= bits
	case api.Shr:
		x >>= bits
	}
	return Value{N: wrap(x)}, 0
}

func (p *plain) meets(op int, x, y Value) (bool, int) {
	switch {
	case x.Mod == y.Mod:
		return op == api.Same && x.N == y.N || op == api.Other && x.N != y.N || op == api.Less && x.N < y.N, 0
	case op == api.Less:
		return false, api.TrapMix
	case x.Mod == 0 && x.N != 0, y.Mod == 0 && y.N != 0, x.Mod != 0 && y.Mod != 0:
		return false, api.TrapMix
	}
	return op == api.Other, 0
}
