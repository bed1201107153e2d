package load

import (
	"dowel/api"
	"testing"
)

// faults are what is wrong with a module: whether it can't be linked, whether it is too big for any hole, and what its body ends with.
type faults struct {
	link, big bool
	end       int
}

// each are all that there may be.
func each() []faults {
	var l []faults
	for _, link := range []bool{false, true} {
		for _, big := range []bool{false, true} {
			for _, end := range []int{api.Done, api.Trapped, api.Fuel} {
				l = append(l, faults{link, big, end})
			}
		}
	}
	return l
}

// on puts faults on a module that imports, as the first one, a module without exports.
func (f faults) on(x *source) *source {
	if f.link {
		x.ref(calls, 1, 1, 0)
	}
	if f.big {
		for range 230 {
			x.back()
		}
	}
	x.body().ins(api.More, 1, 1, 1)
	switch f.end {
	case api.Trapped:
		x.ins(0, 0, 0, 0)
	case api.Fuel:
		x.ins(api.Jump, 0, 0, -1)
	}
	return x.back()
}

// tells is what is told of a module with these.
func (f faults) tells() (api.Outcome, error) {
	switch {
	case f.link:
		return api.Outcome{}, api.ErrForm
	case f.big:
		return api.Outcome{}, api.ErrMemory
	case f.end == api.Trapped:
		return trapped(api.TrapCode, 1), api.ErrTrap
	case f.end == api.Fuel:
		return out(enough), api.ErrFuel
	}
	return api.Outcome{}, nil
}

// Of three modules any has any faults: the first one's, in the chapter's order, is told; and ErrTable ahead of all.
func TestR1AnyErrorsTogether(t *testing.T) {
	for _, c := range each() {
		for _, b := range each() {
			for _, a := range each() {
				files := []*source{module("Z"), c.on(module("C", "Z")), b.on(module("B", "Z", "C")), a.on(module("A", "Z", "B", "C"))}
				g := newRig(t, 1024, 4, files...).loads("Z")
				var outcome api.Outcome
				var err error
				for _, f := range []faults{c, b, a} {
					if outcome, err = f.tells(); err != nil {
						break
					}
				}
				if err == nil {
					g.loads("A")
					continue
				}
				g.ends("A", enough, err, outcome)
				g = newRig(t, 1024, 3, files...).loads("Z")
				g.fails("A", api.ErrTable)
			}
		}
	}
}

// Each of the order's errors stands ahead of ErrTable, and of what linking, memory and bodies tell of what is ahead of it.
func TestR1TheOrdersErrorsFirst(t *testing.T) {
	for _, c := range []struct {
		err   error
		name  string
		files []*source
	}{
		{api.ErrName, "1", nil},
		{api.ErrName, "", nil},
		{api.ErrNone, "None", nil},
		{api.ErrNone, "A", []*source{module("A", "Z", "F", "None")}},
		{api.ErrForm, "A", []*source{module("A", "Z", "F", "B"), noObject("B")}},
		{api.ErrForm, "A", []*source{module("A", "Z", "F", "B"), module("B").spoil()}},
		{api.ErrKey, "A", []*source{module("A", "Z", "F", "B"), module("B").key(1)}},
		{api.ErrCycle, "A", []*source{module("A", "Z", "F", "B"), module("B", "F", "A")}},
		{api.ErrDepth, "A", append(line("B", "C", "D", "E", "G", "H", "I", "J", "K"), module("A", "Z", "F", "B"))},
	} {
		for _, f := range each() {
			for most := 1; most <= 16; most += 5 {
				g := newRig(t, 1024, most, module("Z"), f.on(module("F", "Z")))
				g.loads("Z").put(c.files...)
				g.fails(c.name, c.err)
			}
		}
	}
}

// Where the order meets two errors, the first one met is told.
func TestR1TheOrdersErrorsTogether(t *testing.T) {
	for _, c := range []struct {
		err   error
		files []*source
	}{
		{api.ErrNone, []*source{module("A", "None", "B"), noObject("B")}},
		{api.ErrForm, []*source{module("A", "B", "None"), noObject("B")}},
		{api.ErrKey, []*source{module("A", "B", "C"), module("B").key(2), noObject("C")}},
		{api.ErrForm, []*source{module("A", "C", "B"), module("B").key(2), noObject("C")}},
		{api.ErrCycle, []*source{module("A", "B", "C"), module("B", "A").key(2)}},
		{api.ErrNone, []*source{module("A", "B", "C"), module("B", "C", "A").key(2)}},
		{api.ErrForm, []*source{module("A", "A")}},
	} {
		if c.files[0].o.Imports[0].Name == "A" {
			c.files[0].wrong = true
		}
		newRig(t, 1024, 1, c.files...).fails("A", c.err)
	}
}

// A later module's linking stands behind an earlier one's body; what an earlier body did is seen then.
func TestR1ALaterModuleComesLater(t *testing.T) {
	g := newRig(t, 1024, 16, book()).loads("Book")
	bad := scribe("A", 1, "B").ref(calls, 1, 2, 5)
	g.put(bad, scribe("B", 2, "C"), scribe("C", 3))
	g.fails("A", api.ErrForm)
	if l := g.entries(); len(l) != 4 || l[0] != 3 || l[1] != 2 {
		t.Errorf("the bodies were run as %v", l)
	}
	trap := scribe("C", 3)
	trap.o.Code[8] = 0
	g.put(trap)
	if _, err := g.load("A", enough); err != error(api.ErrTrap) {
		t.Errorf("Load: %v", err)
	}
}
