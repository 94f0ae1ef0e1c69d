package check

import (
	"slices"
	"strings"

	"stanhope/lens"
	"stanhope/resolve"
	"stanhope/typ"
	"stanhope/value"
)

// closed says whether a type is a Record without a rest.
func closed(r *typ.Type) bool { return r.Kind == typ.Record && len(r.Items) == 0 }

// restOnly says whether a type is a Record without Fields, with a rest.
func restOnly(r *typ.Type) bool {
	return r.Kind == typ.Record && len(r.Fields) == 0 && len(r.Items) == 1
}

// number is the number of the Field of a key.
func number(r *typ.Type, key string) (int, bool) {
	if r.Kind != typ.Record {
		return 0, false
	}
	return slices.BinarySearchFunc(r.Fields, key, func(f typ.Field, key string) int { return strings.Compare(f.Key, key) })
}

// behind is the Field of a key.
func behind(r *typ.Type, key string) (typ.Field, bool) {
	i, ok := number(r, key)
	if !ok {
		return typ.Field{}, false
	}
	return r.Fields[i], true
}

// has says whether a type is a Record with a Field of each key.
func has(r *typ.Type, keys []string) bool {
	for _, k := range keys {
		if _, ok := number(r, k); !ok {
			return false
		}
	}
	return r.Kind == typ.Record
}

// record is the closed Record of some Fields, which it lays in order; false, if two of them are alike.
func record(at int, tag string, fields []typ.Field) (typ.Type, bool) {
	slices.SortFunc(fields, func(f, g typ.Field) int { return strings.Compare(f.Key, g.Key) })
	for i := range fields {
		if i > 0 && fields[i].Key == fields[i-1].Key {
			return typ.Type{}, false
		}
	}
	return typ.Type{Kind: typ.Record, At: at, Tag: tag, Fields: fields}, true
}

// project is the type of a Project's views.
func (w *walk) project(l *lens.Lens, r *typ.Type) (typ.Type, bool) {
	var kept []typ.Field
	dropped := 0
	for _, f := range r.Fields {
		if _, keep := slices.BinarySearch(l.Keys, f.Key); keep {
			kept = append(kept, f)
			continue
		}
		i, drop := slices.BinarySearch(l.Drops, f.Key)
		if drop == f.Optional || drop && !value.Of(w.defs.Types, f.Type, l.Values[i]) {
			return typ.Type{}, false
		}
		if drop {
			dropped++
		}
	}
	if dropped < len(l.Drops) {
		return typ.Type{}, false
	}
	return record(l.At, r.Tag, kept)
}

// rename is the type of a Rename's views.
func rename(l *lens.Lens, r *typ.Type) (typ.Type, bool) {
	fields := slices.Clone(r.Fields)
	for i, k := range l.Keys {
		n, _ := number(r, k)
		fields[n].Key = l.Words[i]
	}
	return record(l.At, r.Tag, fields)
}

// lift is the type of a Lift's views.
func (w *walk) lift(l *lens.Lens, r *typ.Type) (typ.Type, bool) {
	i, ok := number(r, l.Name)
	if !ok || r.Fields[i].Optional {
		return typ.Type{}, false
	}
	in, _ := typ.Resolve(w.defs.Types, r.Fields[i].Type)
	if !closed(&in) {
		return typ.Type{}, false
	}
	return record(l.At, r.Tag, slices.Concat(r.Fields[:i], r.Fields[i+1:], in.Fields))
}

// sink is the type of a Sink's views.
func sink(l *lens.Lens, r *typ.Type) (typ.Type, bool) {
	var others, sunk []typ.Field
	for _, f := range r.Fields {
		if _, ok := slices.BinarySearch(l.Keys, f.Key); ok {
			sunk = append(sunk, f)
		} else {
			others = append(others, f)
		}
	}
	in, ok := record(l.At, resolve.Map, sunk)
	if !ok {
		return typ.Type{}, false
	}
	return record(l.At, r.Tag, append(others, typ.Field{Key: l.Name, Type: in}))
}

// on is the type of an On's views.
func (x *seat) on() typ.Type {
	l, r := &x.plan.Lens, &x.from
	fields := slices.Clone(r.Fields)
	for i, k := range l.Keys {
		n, _ := number(r, k)
		fields[n].Type = x.plan.Kids[i].View
	}
	return typ.Type{Kind: typ.Record, At: l.At, Tag: r.Tag, Fields: fields, Items: r.Items}
}

// fill is the type of a Fill's views.
func (w *walk) fill(l *lens.Lens, r *typ.Type) (typ.Type, bool) {
	i, ok := number(r, l.Name)
	if !ok || !r.Fields[i].Optional || !value.Of(w.defs.Types, r.Fields[i].Type, l.Values[0]) {
		return typ.Type{}, false
	}
	fields := slices.Clone(r.Fields)
	fields[i].Optional = false
	return typ.Type{Kind: typ.Record, At: l.At, Tag: r.Tag, Fields: fields, Items: r.Items}, true
}
