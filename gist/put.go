package gist

import (
	"maps"
	"slices"

	"stanhope/carve"
	"stanhope/check"
	"stanhope/lens"
	"stanhope/value"
)

// put is a plan's source behind a view.
func (r *reading) put(p check.Plan, w, s value.Value) value.Value {
	l := p.Lens
	switch l.Kind {
	case lens.Const:
		return s
	case lens.Use:
		q, _ := r.env.Find(l.Name)
		return r.put(q, w, s)
	case lens.Compose:
		return r.back(p, w, s)
	case lens.Project:
		return laid(s, func(k string, _ value.Value) bool { return !slices.Contains(l.Keys, k) }, w)
	case lens.Filter:
		hidden := func(_ string, x value.Value) bool { return !slices.Contains(l.Words, x.Head()) }
		if w.Kind == value.Map {
			return laid(s, hidden, w)
		}
		return woven(s, hidden, w)
	case lens.Map, lens.Items, lens.Keyed, lens.On:
		return r.parts(p, w, s)
	case lens.Union:
		i := r.branch(p.View, w)
		if r.branch(p.Source, s) == i {
			return r.put(p.Kids[i], w, s)
		}
		return r.create(p.Kids[i], w)
	case lens.Fill:
		if _, ok := carve.Entries(s)[l.Name]; ok {
			return w
		}
	}
	return r.create(p, w)
}

// back is a Compose's source behind a view.
func (r *reading) back(p check.Plan, w, s value.Value) value.Value {
	sources := []value.Value{s}
	for _, k := range p.Kids[:len(p.Kids)-1] {
		s = r.counted(r.get(k, s))
		sources = append(sources, s)
	}
	for i := len(p.Kids) - 1; i >= 0; i-- {
		w = r.counted(r.put(p.Kids[i], w, sources[i]))
	}
	return w
}

// laid are a mapping's entries that are hidden, with a view laid over them.
func laid(s value.Value, hidden func(string, value.Value) bool, w value.Value) value.Value {
	m := carve.Entries(s)
	maps.DeleteFunc(m, func(k string, x value.Value) bool { return !hidden(k, x) })
	maps.Copy(m, carve.Entries(w))
	return carve.Laid(w.Tag, m)
}

// woven are the items that are hidden, each behind as many of a view as stood ahead of it, or behind all that there are.
func woven(s value.Value, hidden func(string, value.Value) bool, w value.Value) value.Value {
	v := value.Value{Kind: value.Seq, Tag: w.Tag}
	ahead, done := 0, 0
	for _, x := range s.Kids {
		if !hidden("", x) {
			ahead++
			continue
		}
		n := min(ahead, len(w.Kids))
		v.Kids = append(append(v.Kids, w.Kids[done:n]...), x)
		done = n
	}
	v.Kids = append(v.Kids, w.Kids[done:]...)
	return v
}

// parts is a collection each part of which is put into its fellow, or is its new source, if it has none.
func (r *reading) parts(p check.Plan, w, s value.Value) value.Value {
	v := value.Value{Kind: w.Kind, Tag: w.Tag, Keys: w.Keys}
	for i, x := range w.Kids {
		kid := 0
		if p.Lens.Kind == lens.On {
			kid = slices.Index(p.Lens.Keys, w.Keys[i])
		}
		old, ok := r.fellow(p, w, i, s)
		switch {
		case kid < 0:
		case ok:
			x = r.put(p.Kids[kid], x, old)
		default:
			x = r.create(p.Kids[kid], x)
		}
		v.Kids = append(v.Kids, x)
	}
	return v
}

// fellow is the part of a source to which one of a view belongs; false, if there is none.
func (r *reading) fellow(p check.Plan, w value.Value, i int, s value.Value) (value.Value, bool) {
	if w.Kind == value.Map {
		return s.Get(w.Keys[i])
	}
	if p.Lens.Kind == lens.Keyed {
		key := r.resolved(p.Source).Name
		x := carve.Entries(w.Kids[i])[key]
		i = slices.IndexFunc(s.Kids, func(y value.Value) bool { return value.Same(x, carve.Entries(y)[key]) })
	}
	if i < 0 || i >= len(s.Kids) {
		return value.Value{}, false
	}
	return s.Kids[i], true
}
