package gist

import (
	"slices"

	"stanhope/carve"
	"stanhope/check"
	"stanhope/lens"
	"stanhope/value"
)

// create is a plan's new source.
func (r *reading) create(p check.Plan, w value.Value) value.Value {
	l := p.Lens
	switch l.Kind {
	case lens.Const:
		return l.Values[1]
	case lens.Use:
		q, _ := r.env.Find(l.Name)
		return r.create(q, w)
	case lens.Compose:
		for i := len(p.Kids) - 1; i >= 0; i-- {
			w = r.counted(r.create(p.Kids[i], w))
		}
	case lens.Project:
		m := carve.Entries(w)
		for i, k := range l.Drops {
			m[k] = l.Values[i]
		}
		return carve.Laid(w.Tag, m)
	case lens.Rename:
		return moved(w, l.Words, l.Keys)
	case lens.Hoist:
		return carve.Tagged(r.resolved(p.Source).Tag, carve.Keyed(l.Name, w))
	case lens.Plunge:
		return carve.Entries(w)[l.Name]
	case lens.Lift:
		return r.lowered(p, w)
	case lens.Sink:
		return both(w, l.Name)
	case lens.Map, lens.Items, lens.Keyed:
		return each(w, func(x value.Value) value.Value { return r.create(p.Kids[0], x) })
	case lens.On:
		m := carve.Entries(w)
		for i, k := range l.Keys {
			if x, ok := m[k]; ok {
				m[k] = r.create(p.Kids[i], x)
			}
		}
		return carve.Laid(w.Tag, m)
	case lens.Union:
		return r.create(p.Kids[r.branch(p.View, w)], w)
	case lens.Fill:
		m := carve.Entries(w)
		if value.Same(m[l.Name], l.Values[0]) {
			delete(m, l.Name)
		}
		return carve.Laid(w.Tag, m)
	case lens.Translate:
		w.Text = l.Keys[slices.Index(l.Words, w.Text)]
	}
	return w
}

// lowered is a Lift's new source.
func (r *reading) lowered(p check.Plan, w value.Value) value.Value {
	for _, f := range r.resolved(p.Source).Fields {
		if f.Key != p.Lens.Name {
			continue
		}
		in := r.resolved(f.Type)
		var keys []string
		for _, g := range in.Fields {
			keys = append(keys, g.Key)
		}
		return below(w, keys, f.Key, in.Tag)
	}
	panic("gist: no " + p.Lens.Name)
}
