package typ

import "slices"

// Heads are a type's heads.
func Heads(d Defs, t Type) ([]string, bool) {
	w := d.from(t)
	if w.bare || w.loop {
		return nil, false
	}
	return w.heads, true
}

// walk is a way through all that a type leads to by Names and Items of Unions.
type walk struct {
	defs  Defs
	todo  []step         // the last one comes next
	open  map[string]int // of each name that was met 1, while what it leads to is gone through, and 0 behind that
	heads []string       // of what was met
	bare  bool           // whether a type without heads was met, or a Name that isn't defined
	loop  bool           // whether a Name was met that leads back to itself: just then one leads to an open one
}

// step is a type to be met, or a Name to be left, when all that it leads to was met.
type step struct {
	of    Type
	leave bool
}

// from goes through all that a type leads to.
func (d Defs) from(t Type) walk {
	w := walk{defs: d, todo: []step{{of: t}}, open: make(map[string]int)}
	for len(w.todo) > 0 {
		last := len(w.todo) - 1
		s := w.todo[last]
		w.todo = w.todo[:last]
		if s.leave {
			w.open[s.of.Name] = 0
		} else {
			w.meet(s.of)
		}
	}
	slices.Sort(w.heads)
	w.heads = slices.Compact(w.heads)
	return w
}

// meet goes on to a type.
func (w *walk) meet(t Type) {
	switch t.Kind {
	case Scalar, Enum:
		w.heads = append(w.heads, "."+t.Tag)
	case List, Keyed:
		w.heads = append(w.heads, "["+t.Tag)
	case Record:
		w.heads = append(w.heads, "{"+t.Tag)
	case Union:
		for _, item := range t.Items {
			w.todo = append(w.todo, step{of: item})
		}
	case Name:
		w.name(t)
	default:
		w.bare = true
	}
}

// name goes on to what a Name leads to, if it wasn't met ahead.
func (w *walk) name(t Type) {
	if open, met := w.open[t.Name]; met {
		w.loop = w.loop || open == 1
		return
	}
	to, ok := w.defs.find(t.Name)
	if !ok {
		w.bare = true
		return
	}
	w.open[t.Name] = 1
	w.todo = append(w.todo, step{of: t, leave: true}, step{of: to})
}
