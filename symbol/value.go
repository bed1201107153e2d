package symbol

import (
	"dowel/alu"
	"dowel/api"
)

const byteBits = 8

// number is a value that is one.
func number(n int32) Value { return Value{N: int(n)} }

func (v Value) isNumber() bool { return v.Mod == 0 }

// unsigned is a number without its sign.
func (v Value) unsigned() int { return int(uint32(v.N)) }

// reckon is what an op of numbers comes to, and a trap.
func (w *World) reckon(op int, x, y Value) (Value, int) {
	switch {
	case x.isNumber() && y.isNumber():
		n, trap := alu.Do(op, int32(x.N), int32(y.N))
		return number(n), trap
	case op == api.Add && y.isNumber():
		return w.place(x.Mod, x.N+y.N)
	case op == api.Add && x.isNumber():
		return w.place(y.Mod, y.N+x.N)
	case op == api.Sub && y.isNumber():
		return w.place(x.Mod, x.N-y.N)
	case op == api.Sub && x.Mod == y.Mod:
		return number(int32(x.N - y.N)), 0
	}
	return Value{}, api.TrapMix
}

// place is one in a module, if it is in its block, or at its end.
func (w *World) place(mod, n int) (Value, int) {
	if n < 0 || n > w.modules[mod-1].plan.Size {
		return Value{}, api.TrapMix
	}
	return Value{Mod: mod, N: n}, 0
}

// meets tells whether two values are as a jump's op asks, and a trap.
func meets(op int, x, y Value) (bool, int) {
	switch {
	case op == api.Jump:
		// It asks for nothing, whatever the values are.
		return true, 0
	case x.Mod == y.Mod:
		// Places of one module are to each other as what is between its beginning and them.
		return alu.Meets(op, int32(x.N), int32(y.N)), 0
	case op != api.Less && (x == Value{} || y == Value{}):
		// No module begins at 0: a place is never the number 0.
		return op == api.Other, 0
	}
	return false, api.TrapMix
}

// byteOf is a byte of a number, by how many lie below it.
func byteOf(v Value, below int) Value {
	return number(int32(byte(uint32(v.N) >> (byteBits * below))))
}

// withByte is a number that has a byte, by how many lie below it.
func withByte(v Value, below int, b byte) Value {
	shift := byteBits * below
	rest := uint32(v.N) &^ (uint32(0xff) << shift)
	return number(int32(rest | uint32(b)<<shift))
}
