package load

import (
	"dowel/api"
	"math"
	"strings"
	"testing"
)

// clerk has commands that end in each way.
func clerk() *source {
	x := module("A").data(2).ptrs(1).text("hi").export(api.Var, 0)
	x.cmd("Count").ref(addresses, 1, 0, 0).ins(api.Load, 2, 1, 0).ins(api.More, 2, 2, 1).ins(api.Store, 2, 1, 0).back()
	x.cmd("Trap").ins(api.More, 1, 1, 1).ins(api.Div, 1, 1, 0).back()
	x.cmd("Loop").ins(api.Jump, 0, 0, -1)
	x.cmd("End").back()
	return x
}

func TestP20_3CallsThatEnd(t *testing.T) {
	g := newRig(t, 1024, 4, clerk()).loads("A")
	for n := range 3 {
		g.calls("A", "Count", enough, api.Outcome{End: api.Done, Steps: 5}).words(272, n+1)
		g.calls("A", "Trap", enough, trapped(api.TrapDivide, 1))
		g.calls("A", "Loop", enough, out(1000))
		g.calls("A", "End", enough, api.Outcome{End: api.Done, Steps: 1})
	}
}

func TestP20_3Fuel(t *testing.T) {
	g := newRig(t, 1024, 4, clerk()).loads("A")
	for _, c := range []struct{ fuel, steps int }{{math.MinInt, 0}, {-2000, 0}, {-1, 0}, {0, 0}, {1, 1}, {1999, 1999}, {2000, 2000}, {2001, 2000}, {math.MaxInt32, 2000}, {math.MaxInt, 2000}} {
		g.calls("A", "Loop", c.fuel, out(c.steps))
		if c.fuel < 5 {
			g.calls("A", "Count", c.fuel, out(c.steps))
		}
		if c.fuel < 1 {
			g.calls("A", "End", c.fuel, out(0)).calls("A", "Trap", c.fuel, out(0))
		}
	}
	g.words(272, 0)
	g.calls("A", "Count", 4, out(4)).words(272, 1)
	g.calls("A", "Count", 5, api.Outcome{Steps: 5}).words(272, 2)
	g.calls("A", "Trap", 1, out(1)).calls("A", "Trap", 2, trapped(api.TrapDivide, 1)).calls("A", "End", 1, api.Outcome{Steps: 1})
}

// none asks for ErrNone itself, a zero outcome, and nothing done.
func (g *rig) none(name, cmd string) {
	g.t.Helper()
	for _, fuel := range []int{math.MinInt, -1, 0, enough, math.MaxInt} {
		if o, err := g.call(name, cmd, fuel); err == nil || err != error(api.ErrNone) || o != (api.Outcome{}) {
			g.t.Fatalf("Call(%q, %q, %d) = %+v, %v", name, cmd, fuel, o, err)
		}
	}
}

func TestP20_3CallsOfWhatIsNotThere(t *testing.T) {
	g := newRig(t, 1024, 4, clerk(), module("B", "A").cmd("End").back(), module("C"))
	wrong := []string{"", "B", "a", "AA", "1", "é", "\xff", "abcdefghijklmnopq", strings.Repeat("A", 100000)}
	for _, s := range append(wrong, "A") {
		g.none(s, "Count")
	}
	g.loads("A", "C")
	for _, s := range wrong {
		g.none(s, "Count")
		g.none("A", s)
		g.none("C", s)
	}
	// Another one's commands, exports and files are none.
	for _, s := range []string{"count", "Coun", "Count ", "Count\x00", "C", "A"} {
		g.none("A", s)
		g.none("C", s)
	}
	g.loads("B")
	g.none("B", "Count")
	g.removes("B")
	g.none("B", "End")
	g.removes("A")
	g.none("A", "Count")
}

// Commands of one name are told apart by their modules; all a module may have, at each place of its code.
func TestP20_3WhichCommandIsMeant(t *testing.T) {
	a, b := module("A").text("abc").data(3), module("B").rec(0, 0, -1)
	for i, s := range []string{"C1", "C2", "C3", "C4", "C5", "C6", "C7", "A"} {
		a.cmd(s).ins(api.Set, 1, 0, i).ins(api.Store, 1, 0, 16).back()
		b.cmd(s).ins(api.Set, 1, 0, 100+i).ins(api.Store, 1, 0, 16).back()
	}
	g := newRig(t, 1024, 4, a, b).loads("B", "A")
	for i, s := range []string{"C1", "C2", "C3", "C4", "C5", "C6", "C7", "A"} {
		g.calls("A", s, enough, api.Outcome{Steps: 3}).words(16, i)
		g.calls("B", s, enough, api.Outcome{Steps: 3}).words(16, 100+i)
	}
}

// Commands of one place, and at the last instruction.
func TestP20_3WhereACommandBegins(t *testing.T) {
	x := module("A").cmd("First").cmd("Again").ins(api.More, 1, 1, 1).ins(api.More, 1, 1, 1).cmd("Last").back()
	g := newRig(t, 1024, 4, x).loads("A")
	g.calls("A", "First", enough, api.Outcome{Steps: 3}).calls("A", "Again", enough, api.Outcome{Steps: 3}).calls("A", "Last", enough, api.Outcome{Steps: 1})
}

// The command is the one that was loaded, whatever its file is by then.
func TestP20_3FilesAreNotAsked(t *testing.T) {
	g := newRig(t, 1024, 4, clerk()).loads("A")
	g.put(module("A").cmd("Other").back())
	g.calls("A", "End", enough, api.Outcome{Steps: 1}).none("A", "Other")
	g.delete("A")
	g.calls("A", "Count", enough, api.Outcome{Steps: 5}).none("A", "Other")
}

// Code goes through memory and zones of all modules; declared cells may have their values behind it.
func TestP20_3WhatACommandMeets(t *testing.T) {
	x := module("A", "H").data(1).ptrs(0).export(api.Var, 0)
	x.cmd("Tell").ref(addresses, 1, 1, 0).ref(addresses, 2, 0, 0).ins(api.Store, 2, 1, 8).ins(api.Store, 1, 2, 0).back()
	x.cmd("Wrong").ref(addresses, 1, 1, 0).ins(api.Set, 2, 0, 16).ins(api.Store, 2, 1, 8).back()
	x.cmd("Hop").ref(calls, 13, 1, 1).back()
	g := newRig(t, 1024, 4, holder(), x).loads("A")
	g.calls("A", "Tell", enough, api.Outcome{Steps: 5}).words(280, 272+holderSize).words(272+holderSize, 272)
	g.calls("A", "Wrong", enough, trapped(api.TrapPointer, 2)).words(280, 272+holderSize)
	g.calls("A", "Hop", enough, api.Outcome{Steps: 3})
	g.checkCells()
}
