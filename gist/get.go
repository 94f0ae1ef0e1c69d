package gist

import (
	"slices"

	"stanhope/carve"
	"stanhope/check"
	"stanhope/lens"
	"stanhope/value"
)

// get is a plan's view.
func (r *reading) get(p check.Plan, v value.Value) value.Value {
	l := p.Lens
	switch l.Kind {
	case lens.Const:
		return l.Values[0]
	case lens.Use:
		q, _ := r.env.Find(l.Name)
		return r.get(q, v)
	case lens.Compose:
		for _, k := range p.Kids {
			v = r.counted(r.get(k, v))
		}
	case lens.Project:
		return carve.Laid(v.Tag, among(v, l.Keys, true))
	case lens.Rename:
		return moved(v, l.Keys, l.Words)
	case lens.Hoist:
		return carve.Entries(v)[l.Name]
	case lens.Plunge:
		return carve.Keyed(l.Name, v)
	case lens.Lift:
		return both(v, l.Name)
	case lens.Sink:
		return below(v, l.Keys, l.Name, "map")
	case lens.Filter:
		return filtered(v, l.Words)
	case lens.Map, lens.Items, lens.Keyed:
		return each(v, func(x value.Value) value.Value { return r.get(p.Kids[0], x) })
	case lens.On:
		m := carve.Entries(v)
		for i, k := range l.Keys {
			if x, ok := m[k]; ok {
				m[k] = r.get(p.Kids[i], x)
			}
		}
		return carve.Laid(v.Tag, m)
	case lens.Union:
		return r.get(p.Kids[r.branch(p.Source, v)], v)
	case lens.Fill:
		m := carve.Entries(v)
		if _, ok := m[l.Name]; !ok {
			m[l.Name] = l.Values[0]
		}
		return carve.Laid(v.Tag, m)
	case lens.Translate:
		v.Text = l.Words[slices.Index(l.Keys, v.Text)]
	}
	return v
}

// filtered is a collection of those alone whose heads are words.
func filtered(v value.Value, words []string) value.Value {
	f := value.Value{Kind: v.Kind, Tag: v.Tag}
	for i, x := range v.Kids {
		if slices.Contains(words, x.Head()) {
			f.Kids = append(f.Kids, x)
			if v.Kind == value.Map {
				f.Keys = append(f.Keys, v.Keys[i])
			}
		}
	}
	return f
}
