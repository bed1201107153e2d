package table

import (
	"dowel/api"
	"math/rand"
	"strconv"
	"testing"
)

// some are up to most names out of those that a run is about, the same one several times too.
func some(r *rand.Rand, names []string, most int) []string {
	var l []string
	for range r.Intn(most + 1) {
		l = append(l, names[r.Intn(len(names))])
	}
	return l
}

// anyModule is one of these names, that imports mostly what is there.
func anyModule(r *rand.Rand, names, there []string) Module {
	m := full(names[r.Intn(len(names))], r.Intn(1000))
	if r.Intn(3) == 0 || len(there) == 0 {
		m.Imports = some(r, names, 2)
	} else {
		m.Imports = some(r, there, 4)
	}
	m.Exports = m.Exports[:r.Intn(len(m.Exports)+1)]
	m.Cmds = m.Cmds[:r.Intn(len(m.Cmds)+1)]
	return m
}

// Behind each of any adds and removes all is as a plain table tells it, and each module's imports are there.
func TestP18_3AnyAddsAndRemoves(t *testing.T) {
	r := rand.New(rand.NewSource(18))
	codes, removed := map[api.Code]int{}, map[bool]int{}
	for range 120 {
		var names []string
		for n := range 2 + r.Intn(20) {
			names = append(names, "M"+strconv.Itoa(n))
		}
		tab, p := made(t, r.Intn(19)-1)
		for range 120 {
			if r.Intn(5) < 3 {
				codes[checkAdd(t, tab, p, anyModule(r, names, p.names()))]++
				continue
			}
			s := names[r.Intn(len(names))]
			want := p.at(s) >= 0 && p.refs(s) == 0
			checkRemove(t, tab, p, s, want)
			removed[want]++
		}
	}
	for _, code := range []api.Code{0, api.ErrTable, api.ErrArg, api.ErrNone} {
		if codes[code] < 300 {
			t.Errorf("only %d adds came to %v", codes[code], code)
		}
	}
	if removed[true] < 300 || removed[false] < 300 {
		t.Errorf("removes: %v", removed)
	}
}

// Every small table: all sequences of five steps with three names.
func TestP18_3EverySequence(t *testing.T) {
	var steps []func(tab *Table, p *plain)
	names := []string{"A", "B", "C"}
	for i, s := range names {
		for _, imports := range [][]string{nil, {names[(i+1)%3]}} {
			steps = append(steps, func(tab *Table, p *plain) { checkAdd(t, tab, p, bare(s, imports...)) })
		}
		steps = append(steps, func(tab *Table, p *plain) {
			checkRemove(t, tab, p, s, p.at(s) >= 0 && p.refs(s) == 0)
		})
	}
	const long = 5
	all := 1
	for range long {
		all *= len(steps)
	}
	for run := range all {
		tab, p := made(t, 2+run%2)
		for range long {
			steps[run%len(steps)](tab, p)
			run /= len(steps)
		}
	}
}
