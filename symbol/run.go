package symbol

import (
	"dowel/api"
	"dowel/ins"
)

// Registers that are not 0 where code begins.
const (
	stackReg = 14
	endReg   = 15
)

// endNumber is where code goes to that is done.
const endNumber = -4

// state has registers, and where it goes on: a place, or a number.
type state struct {
	r  [api.Regs]Value
	at Value
}

// begun is the state ahead of the first step.
func begun(at Value) state {
	s := state{at: at}
	s.r[stackReg] = number(api.StackTo)
	s.r[endReg] = number(endNumber)
	return s
}

// run goes on from a state till it ends.
func (w *World) run(s state, fuel int) api.Outcome {
	most := min(max(fuel, 0), api.MaxFuel)
	for steps := 0; ; steps++ {
		// Asked first: what has reached the end with its last fuel is done.
		if s.at == number(endNumber) {
			return api.Outcome{End: api.Done, Steps: steps}
		}
		if steps == most {
			return api.Outcome{End: api.Fuel, Steps: steps}
		}
		if trap := w.step(&s); trap != 0 {
			return api.Outcome{End: api.Trapped, Trap: trap, Steps: steps}
		}
	}
}

// step is a step: a trap, or 0.
func (w *World) step(s *state) int {
	i, ref, trap := w.fetch(s.at)
	if trap != 0 {
		return trap
	}
	// It is done to a copy: with a trap the state stays as it is.
	next := *s
	next.at.N += wordBytes
	if trap := w.do(&next, i, ref); trap != 0 {
		return trap
	}
	*s = next
	return 0
}

// fetch is the instruction at a place, what it refers to (else the number 0), and a trap.
func (w *World) fetch(at Value) (api.Ins, Value, int) {
	if at.isNumber() {
		return api.Ins{}, Value{}, beside(at, api.TrapJump)
	}
	m := w.modules[at.Mod-1]
	if at.N < 0 || at.N >= m.plan.Size {
		return api.Ins{}, Value{}, api.TrapMix
	}
	if !m.isCode(at.N) {
		return api.Ins{}, Value{}, api.TrapJump
	}
	n := (at.N - m.plan.Code) / wordBytes
	i, ok := ins.Get(m.code[n])
	if !ok {
		return api.Ins{}, Value{}, api.TrapCode
	}
	return i, m.refs[n], 0
}

// beside is the trap of a number where a module's place is asked for: below StackTo none lies, wherever modules do.
func beside(n Value, trap int) int {
	if n.unsigned() < api.StackTo {
		return trap
	}
	return api.TrapMix
}

// isCode tells whether an instruction is at a place of the block.
func (m *module) isCode(n int) bool { return n%wordBytes == 0 && n >= m.plan.Code }

// do does an instruction; the place is the one behind it already.
func (w *World) do(s *state, i api.Ins, ref Value) int {
	switch i.Op {
	case api.Set:
		s.r[i.A] = meant(i, ref)
	case api.More:
		return w.reckonTo(s, i.A, api.Add, s.r[i.B], Value{N: i.N})
	case api.Load:
		return w.load(s, i)
	case api.Store:
		return w.store(s, i)
	case api.LoadB:
		return w.loadByte(s, i)
	case api.StorB:
		return w.storeByte(s, i)
	case api.Same, api.Other, api.Less, api.Jump:
		return s.jumpIf(i)
	case api.Call:
		s.r[i.A] = s.at
		s.call(i, ref)
	case api.Go:
		s.at = s.r[i.A]
	default:
		return w.reckonTo(s, i.A, i.Op, s.r[i.B], s.r[i.N])
	}
	return 0
}

// meant is what a Set sets: what it refers to, or its number.
func meant(i api.Ins, ref Value) Value {
	if ref.isNumber() {
		return Value{N: i.N}
	}
	return ref
}

// reckonTo has a register be what an op comes to.
func (w *World) reckonTo(s *state, reg, op int, x, y Value) int {
	v, trap := w.reckon(op, x, y)
	if trap != 0 {
		return trap
	}
	s.r[reg] = v
	return 0
}

func (s *state) jumpIf(i api.Ins) int {
	met, trap := meets(i.Op, s.r[i.A], s.r[i.B])
	if trap != 0 {
		return trap
	}
	if met {
		s.jump(i.N)
	}
	return 0
}

// call goes on where a Call refers to, or by its number.
func (s *state) call(i api.Ins, ref Value) {
	if ref.isNumber() {
		s.jump(i.N)
		return
	}
	s.at = ref
}

func (s *state) jump(words int) { s.at.N += wordBytes * words }
