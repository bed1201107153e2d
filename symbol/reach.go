package symbol

import "dowel/api"

// spot is where a load, or a store, is: a word, and which of its bytes is meant first.
type spot struct {
	word *Value
	byte int
	cell int // the kind of declared cell that the word is
}

// reach is the spot of so many bytes (a word, or one) at a value and a number together, and a trap.
func (w *World) reach(v Value, more, bytes int, toStore bool) (spot, int) {
	v.N += more
	if v.isNumber() {
		v.N = v.unsigned()
	}
	switch {
	case v.N%bytes != 0:
		return spot{}, api.TrapAlign
	case v.isNumber():
		return w.inStack(v)
	}
	return w.modules[v.Mod-1].inBlock(v.N, toStore)
}

// inStack is the spot at a number.
func (w *World) inStack(v Value) (spot, int) {
	if v.N < api.StackFrom || v.N >= api.StackTo {
		return spot{}, beside(v, api.TrapRange)
	}
	n := v.N - api.StackFrom
	return spot{word: &w.stack[n/wordBytes], byte: n % wordBytes}, 0
}

// inBlock is the spot at a place of the block.
func (m *module) inBlock(n int, toStore bool) (spot, int) {
	end := m.plan.Code
	if toStore {
		end = m.plan.Types
	}
	switch {
	case n < 0 || n >= m.plan.Size:
		return spot{}, api.TrapMix
	case n >= end:
		return spot{}, api.TrapRange
	}
	word := n / wordBytes
	return spot{word: &m.words[word], byte: n % wordBytes, cell: m.cells[word]}, 0
}

func (w *World) load(s *state, i api.Ins) int {
	at, trap := w.reach(s.r[i.B], i.N, wordBytes, false)
	if trap != 0 {
		return trap
	}
	s.r[i.A] = *at.word
	return 0
}

func (w *World) store(s *state, i api.Ins) int {
	at, trap := w.reach(s.r[i.B], i.N, wordBytes, true)
	if trap != 0 {
		return trap
	}
	if trap := w.cellTrap(at.cell, s.r[i.A]); trap != 0 {
		return trap
	}
	*at.word = s.r[i.A]
	return 0
}

// cellTrap is the trap of a declared cell that would have a value.
func (w *World) cellTrap(kind int, v Value) int {
	if kind == noCell || v == number(0) {
		return 0
	}
	if v.isNumber() {
		return beside(v, api.TrapPointer)
	}
	m := w.modules[v.Mod-1]
	switch {
	case v.N == m.plan.Size:
		// The next module may begin there.
		return api.TrapMix
	case kind == ptrCell && v.N < m.plan.Code, kind == procCell && m.isCode(v.N):
		return 0
	}
	return api.TrapPointer
}

func (w *World) loadByte(s *state, i api.Ins) int {
	at, trap := w.reach(s.r[i.B], i.N, 1, false)
	if trap != 0 {
		return trap
	}
	if !at.word.isNumber() {
		return api.TrapMix
	}
	s.r[i.A] = byteOf(*at.word, at.byte)
	return 0
}

func (w *World) storeByte(s *state, i api.Ins) int {
	at, trap := w.reach(s.r[i.B], i.N, 1, true)
	if trap != 0 {
		return trap
	}
	if at.cell != noCell {
		// One byte of a place could make it another place.
		return api.TrapPointer
	}
	if !at.word.isNumber() || !s.r[i.A].isNumber() {
		return api.TrapMix
	}
	*at.word = withByte(*at.word, at.byte, byte(s.r[i.A].N))
	return 0
}
