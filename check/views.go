package check

import (
	"slices"

	"stanhope/lens"
	"stanhope/resolve"
	"stanhope/typ"
	"stanhope/value"
)

// suits says whether a lens's sources have the form that it asks for, whatever its Kids make of them.
func (w *walk) suits(x *seat) bool {
	l, r := &x.plan.Lens, &x.from
	switch l.Kind {
	case lens.Copy:
		return r.Kind == typ.Dag || r.Kind == typ.Any
	case lens.Hoist, lens.Lift:
		return closed(r)
	case lens.Rename, lens.Sink:
		if !closed(r) {
			return false
		}
		fallthrough
	case lens.Project, lens.On:
		return has(r, l.Keys)
	case lens.Fill:
		return r.Kind == typ.Record
	case lens.Map:
		return restOnly(r)
	case lens.Filter:
		if restOnly(r) {
			return true
		}
		fallthrough
	case lens.Items:
		return r.Kind == typ.List && len(r.Items) == 1
	case lens.Keyed:
		return r.Kind == typ.Keyed && len(r.Items) == 1 && w.defs.Keeps(l.Kids[0], r.Name)
	case lens.Union:
		return r.Kind == typ.Union && len(r.Items) == len(l.Kids)
	case lens.Translate:
		return r.Kind == typ.Enum && slices.Equal(r.Words, l.Keys)
	}
	return true
}

// view is the type of the views of a lens that suits its sources, and whose Kids have their plans; false, if the lens is wrong.
func (w *walk) view(x *seat) (typ.Type, bool) {
	l, r := &x.plan.Lens, &x.from
	switch l.Kind {
	case lens.Const:
		return constant(l), value.Of(w.defs.Types, x.plan.Source, l.Values[1])
	case lens.Compose:
		return x.plan.Kids[len(l.Kids)-1].View, true
	case lens.Project:
		return w.project(l, r)
	case lens.Rename:
		return rename(l, r)
	case lens.Hoist:
		f, ok := behind(r, l.Name)
		return f.Type, ok && !f.Optional && len(r.Fields) == 1
	case lens.Plunge:
		return record(l.At, resolve.Map, []typ.Field{{Key: l.Name, Type: x.plan.Source}})
	case lens.Lift:
		return w.lift(l, r)
	case lens.Sink:
		return sink(l, r)
	case lens.Filter:
		return w.filter(l, r)
	case lens.Keyed:
		if !w.keyed(x) {
			return typ.Type{}, false
		}
		fallthrough
	case lens.Map, lens.Items:
		return holding(l.At, r, x.plan.Kids[0].View), true
	case lens.On:
		return x.on(), true
	case lens.Union:
		return w.union(x)
	case lens.Fill:
		return w.fill(l, r)
	case lens.Translate:
		return translate(l, r)
	case lens.Use:
		d, _ := w.defs.Find(l.Name)
		return d.View, Fit(w.defs.Types, x.plan.Source, d.Source)
	}
	return x.plan.Source, true
}

// constant is the type of a Const's views.
func constant(l *lens.Lens) typ.Type {
	only := l.Values[0]
	return typ.Type{Kind: typ.Enum, At: l.At, Tag: only.Tag, Words: []string{only.Text}}
}

// translate is the type of a Translate's views.
func translate(l *lens.Lens, r *typ.Type) (typ.Type, bool) {
	for _, word := range l.Words {
		if !resolve.Right(r.Tag, word) {
			return typ.Type{}, false
		}
	}
	return typ.Type{Kind: typ.Enum, At: l.At, Tag: r.Tag, Words: slices.Sorted(slices.Values(l.Words))}, true
}

// filter is the type of a Filter's views.
func (w *walk) filter(l *lens.Lens, r *typ.Type) (typ.Type, bool) {
	all, ok := typ.Resolve(w.defs.Types, r.Items[0])
	if !ok || all.Kind != typ.Union {
		return typ.Type{}, false
	}
	var stay []typ.Type
	met := 0
	for _, item := range all.Items {
		heads, _ := typ.Heads(w.defs.Types, item)
		n := among(heads, l.Words)
		if n > 0 && n < len(heads) {
			return typ.Type{}, false
		}
		if n > 0 {
			stay = append(stay, item)
		}
		met += n
	}
	// No two Items have a head in common, so that no word was met twice.
	if met < len(l.Words) || len(stay) == len(all.Items) {
		return typ.Type{}, false
	}
	if len(stay) == 1 {
		return holding(l.At, r, stay[0]), true
	}
	return holding(l.At, r, typ.Type{Kind: typ.Union, At: l.At, Items: stay}), true
}

// among is how many of some texts are among others, that rise.
func among(some, others []string) int {
	n := 0
	for _, s := range some {
		if _, ok := slices.BinarySearch(others, s); ok {
			n++
		}
	}
	return n
}

// holding is a type of collections with another type of what they hold.
func holding(at int, r *typ.Type, item typ.Type) typ.Type {
	t := typ.Type{Kind: r.Kind, At: at, Tag: r.Tag, Items: []typ.Type{item}}
	if r.Kind == typ.Keyed {
		t.Name = r.Name
	}
	return t
}

// keyed says whether what a Keyed's Kid makes of items has their key still.
func (w *walk) keyed(x *seat) bool {
	key := x.from.Name
	was, _ := typ.Resolve(w.defs.Types, x.from.Items[0])
	is, _ := typ.Resolve(w.defs.Types, x.plan.Kids[0].View)
	f, had := behind(&was, key)
	g, has := behind(&is, key)
	return had && has && !g.Optional && Fit(w.defs.Types, g.Type, f.Type)
}

// union is the type of a Union's views.
func (w *walk) union(x *seat) (typ.Type, bool) {
	u := typ.Type{Kind: typ.Union, At: x.plan.Lens.At}
	var all []string
	for _, k := range x.plan.Kids {
		heads, ok := typ.Heads(w.defs.Types, k.View)
		if !ok {
			return typ.Type{}, false
		}
		all = append(all, heads...)
		u.Items = append(u.Items, k.View)
	}
	// What the Kids make may be, as what they are made of may: all that is left to ask is whether two have a head in common.
	slices.Sort(all)
	n := len(all)
	return u, len(slices.Compact(all)) == n
}
