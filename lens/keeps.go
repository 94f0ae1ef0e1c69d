package lens

import "slices"

// Keeps says whether a lens keeps a key.
func (d Defs) Keeps(l Lens, key string) bool {
	a := asking{defs: d, key: key, todo: []task{{of: &l}}, open: make(map[string]int)}
	for len(a.todo) > 0 {
		last := len(a.todo) - 1
		t := a.todo[last]
		a.todo = a.todo[:last]
		if t.leave {
			a.open[t.of.Name] = 0
		} else if !a.meet(t.of) {
			return false
		}
	}
	return true
}

// asking is a way through all lenses that are to keep a key, if one is to keep it.
type asking struct {
	defs Defs
	key  string
	todo []task         // the last one comes next
	open map[string]int // of each name that was met 1, while what it leads to is gone through, and 0 behind that
}

// task is a lens to be met, or a Use to be left, when all to which it leads was met.
type task struct {
	of    *Lens
	leave bool
}

// meet goes on to a lens, and says whether it keeps the key, if those to which it leads do.
func (a *asking) meet(l *Lens) bool {
	switch l.Kind {
	case Use:
		return a.name(l)
	case Compose, Union:
		for i := range l.Kids {
			a.todo = append(a.todo, task{of: &l.Kids[i]})
		}
		return true
	}
	return l.spares(a.key)
}

// name goes on to what a Use names, if that wasn't met ahead. A name that is open leads back to itself.
func (a *asking) name(l *Lens) bool {
	if open, met := a.open[l.Name]; met {
		return open == 0
	}
	d, ok := a.defs.Find(l.Name)
	if !ok {
		return false
	}
	a.open[l.Name] = 1
	a.todo = append(a.todo, task{l, true}, task{of: &d.Lens})
	return true
}

// spares says whether a lens keeps a key for itself.
func (l *Lens) spares(key string) bool {
	switch l.Kind {
	case Id:
		return true
	case Project:
		return slices.Contains(l.Keys, key)
	case Rename:
		return !slices.Contains(l.Keys, key) && !slices.Contains(l.Words, key)
	case Sink:
		if slices.Contains(l.Keys, key) {
			return false
		}
		fallthrough
	case Lift, Fill:
		return key != l.Name
	case On:
		i := slices.Index(l.Keys, key)
		return i < 0 || i < len(l.Kids) && l.Kids[i].Kind == Id
	}
	return false
}
