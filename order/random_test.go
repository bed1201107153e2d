package order

import (
	"dowel/api"
	"errors"
	"math/rand"
	"slices"
	"strconv"
	"testing"
)

// spread are names of a graph's modules.
func spread(count int) []string {
	var names []string
	for i := range count {
		names = append(names, "M"+strconv.Itoa(i))
	}
	return names
}

// pick is up to most of the names, each once, in any order.
func pick(r *rand.Rand, names []string, most int) []string {
	var l []string
	count := min(most, len(names))
	for _, i := range r.Perm(len(names))[:max(r.Intn(count+1), r.Intn(count+1))] {
		l = append(l, names[i])
	}
	return l
}

// graph is a world of any modules: with no cycle, if each is to import only what stands behind it.
func graph(r *rand.Rand, names []string, cycles bool) *world {
	w := having()
	most := 1 + r.Intn(6)
	for i, s := range names {
		from := names[i+1:]
		if cycles {
			from = slices.Concat(names[:i], names[i+1:])
		} else if r.Intn(2) == 0 {
			// Mostly near ones, so that chains are long.
			from = from[:min(len(from), 2)]
		}
		if r.Intn(4) == 0 {
			w.files[s] = bare(s, pick(r, from, most)...)
		} else {
			w.files[s] = module(s, pick(r, from, most)...)
		}
	}
	for _, s := range names {
		if r.Intn(12) == 0 {
			w.load(s)
		}
	}
	return w
}

// turnOne makes one thing of a graph another one than it should be.
func turnOne(r *rand.Rand, w *world, names []string, gone error) {
	s := names[r.Intn(len(names))]
	o, ok := w.files[s]
	if !ok {
		return
	}
	switch r.Intn(7) {
	case 0:
		delete(w.files, s)
	case 1:
		w.spoil(s)
	case 2:
		w.fail(s, []error{api.ErrNone, api.ErrKey, gone}[r.Intn(3)])
	case 3:
		o.Name = names[r.Intn(len(names))]
		w.files[s] = o
		// It would import itself.
		if slices.ContainsFunc(o.Imports, func(i api.Import) bool { return i.Name == o.Name }) {
			w.spoil(s)
		}
	case 4:
		o.Key += uint32(r.Intn(3))
		w.files[s] = o
	case 5:
		if len(o.Imports) > 0 {
			o.Imports[r.Intn(len(o.Imports))].Key += uint32(r.Intn(2))
		}
	case 6:
		w.loaded[s] = keyOf(s) + uint32(r.Intn(2))
	}
}

func TestP19_3AnyGraphs(t *testing.T) {
	r := rand.New(rand.NewSource(191))
	gone := errors.New("gone")
	met := map[error]int{}
	long := 0
	for range 6000 {
		names := spread(1 + r.Intn(18))
		w := graph(r, names, r.Intn(3) == 0)
		for range []int{0, 0, 0, 1, 2}[r.Intn(5)] {
			turnOne(r, w, names, gone)
		}
		for _, s := range []string{names[0], names[r.Intn(len(names))]} {
			order, err := checkResolve(t, w, s)
			if len(order) > 9 {
				long++
			}
			met[err]++
		}
	}
	for _, err := range []error{nil, api.ErrCycle, api.ErrForm, api.ErrKey, api.ErrNone, gone} {
		if met[err] < 100 {
			t.Errorf("%v was met %d times: %v", err, met[err], met)
		}
	}
	if long < 200 {
		t.Errorf("only %d orders were longer than a chain may be", long)
	}
}

// Graphs with long chains, some of them just as deep as they may be.
func TestP19_1AnyDeepGraphs(t *testing.T) {
	r := rand.New(rand.NewSource(192))
	met := map[error]int{}
	for range 5000 {
		names := spread(8 + r.Intn(10))
		w := having(lined(names)...)
		for range r.Intn(8) {
			from := r.Intn(len(names))
			to := min(from+1+r.Intn(9), len(names)-1)
			if r.Intn(12) == 0 {
				to = r.Intn(len(names))
			}
			o := w.files[names[from]]
			if from == to || len(o.Imports) == 8 || slices.Contains(o.Imports, ref(names[to])) {
				continue
			}
			o.Imports = slices.Insert(o.Imports, r.Intn(len(o.Imports)+1), ref(names[to]))
			w.files[names[from]] = o
		}
		if r.Intn(4) == 0 {
			w.load(names[r.Intn(len(names))])
		}
		_, err := checkResolve(t, w, names[0])
		met[err]++
	}
	for _, err := range []error{nil, api.ErrCycle, api.ErrDepth} {
		if met[err] < 200 {
			t.Errorf("%v was met %d times: %v", err, met[err], met)
		}
	}
}

// states are all that one of three modules may be; what it imports is told apart from that.
var states = []func(w *world, s string){
	func(w *world, s string) {},
	func(w *world, s string) { w.load(s) },
	func(w *world, s string) { w.loaded[s] = keyOf(s) + 1 },
	func(w *world, s string) { delete(w.files, s) },
	func(w *world, s string) { w.spoil(s) },
	func(w *world, s string) {
		o := w.files[s]
		o.Key++
		w.files[s] = o
	},
	func(w *world, s string) {
		o := w.files[s]
		o.Name = "D"
		w.files[s] = o
	},
}

// Every graph of three modules, each in each state.
func TestP19_3EverySmallGraph(t *testing.T) {
	names := []string{"A", "B", "C"}
	for lists := range 5 * 5 * 5 {
		for many := range len(states) * len(states) * len(states) {
			w := having()
			left, state := lists, many
			for i, s := range names {
				b, c := names[(i+1)%3], names[(i+2)%3]
				imports := [][]string{{}, {b}, {c}, {b, c}, {c, b}}[left%5]
				w.files[s] = bare(s, imports...)
				states[state%len(states)](w, s)
				left, state = left/5, state/len(states)
			}
			checkResolve(t, w, "A")
		}
	}
}
