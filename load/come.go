package load

import (
	"dowel/api"
	"dowel/obj"
	"dowel/order"
	"dowel/plan"
	"dowel/run"
	"dowel/table"
	"slices"
)

// loadAll loads a module behind all that it imports, or nothing.
func (s *System) loadAll(n string, fuel int) (api.Outcome, error) {
	list, err := order.Resolve(n, s.object, s.key)
	if err != nil {
		return api.Outcome{}, err
	}
	if len(list) > s.table.Room() {
		return api.Outcome{}, api.ErrTable
	}
	for i, o := range list {
		outcome, err := s.loadOne(o, fuel)
		if err != nil {
			s.removeAll(list[:i+1])
			return outcome, err
		}
	}
	return api.Outcome{}, nil
}

// object is a file's object.
func (s *System) object(n string) (api.Object, error) {
	b, err := s.files.Get(n)
	if err != nil {
		return api.Object{}, err
	}
	return obj.Get(b)
}

// key is the key of a module that is loaded.
func (s *System) key(n string) (uint32, bool) {
	m, ok := s.table.Find(n)
	return m.Key, ok
}

// loadOne loads an object whose imports are loaded. Where its body isn't done, it is there all the same.
func (s *System) loadOne(o api.Object, fuel int) (api.Outcome, error) {
	l, err := s.add(o)
	if err != nil {
		return api.Outcome{}, err
	}
	if o.Body == 0 {
		return api.Outcome{}, nil
	}
	return s.runBody(l.codeAt(o.Body-1), fuel)
}

// add links an object, lays it into a block, and adds it.
func (s *System) add(o api.Object) (*linked, error) {
	// Whether it can be linked doesn't hang on where it lies, and is asked ahead of whether there is room.
	if _, err := s.link(o, api.StackTo); err != nil {
		return nil, err
	}
	size := plan.Of(o).Size
	base, err := s.heap.Take(size)
	if err != nil {
		return nil, err
	}
	l, err := s.link(o, base)
	if err == nil {
		s.lay(l)
		err = s.enter(l.module())
	}
	if err != nil {
		s.heap.Give(base, size)
		return nil, err
	}
	return l, nil
}

// lay lays what is linked into its block.
func (s *System) lay(l *linked) {
	s.setWords(l.base, make([]uint32, l.plan.Code/wordBytes))
	s.setWords(l.base+l.plan.Types, l.types)
	for i := range len(l.object.Text) {
		s.mem.SetByte(l.base+l.plan.Text+i, l.object.Text[i])
	}
	s.setWords(l.base+l.plan.Code, l.code)
}

// setWords sets words from a place on.
func (s *System) setWords(at int, words []uint32) {
	for i, w := range words {
		s.mem.SetWord(at+i*wordBytes, w)
	}
}

// enter adds a module, and its zone, or neither.
func (s *System) enter(m table.Module) error {
	if err := s.table.Add(m); err != nil {
		return err
	}
	if err := s.zones.Add(m.Zone); err != nil {
		s.table.Remove(m.Name)
		return err
	}
	return nil
}

// runBody calls a body. What a body comes to that is done isn't told.
func (s *System) runBody(at, fuel int) (api.Outcome, error) {
	outcome := run.Call(s.mem, s.zones, at, fuel)
	switch outcome.End {
	case api.Trapped:
		return outcome, api.ErrTrap
	case api.Fuel:
		return outcome, api.ErrFuel
	}
	return api.Outcome{}, nil
}

// removeAll removes modules, the last one first; one that hasn't come in is passed over.
func (s *System) removeAll(list []api.Object) {
	for _, o := range slices.Backward(list) {
		s.Remove(o.Name)
	}
}
