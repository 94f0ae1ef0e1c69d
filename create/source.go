package create

import (
	"slices"

	"stanhope/check"
	"stanhope/lens"
	"stanhope/merge"
	"stanhope/typ"
	"stanhope/value"
)

// source is the new source by a lens without Kids; false, if there is none.
func source(e check.Env, p *check.Plan, w value.Value) (value.Value, bool) {
	l := &p.Lens
	switch l.Kind {
	case lens.Const:
		return l.Values[1], true
	case lens.Project:
		return merge.Lay(w, value.Value{Kind: value.Map, Tag: w.Tag, Keys: l.Drops, Kids: l.Values}), true
	case lens.Rename:
		return merge.Move(w, l.Words, l.Keys), true
	case lens.Hoist:
		r, _ := typ.Resolve(e.Defs.Types, p.Source)
		return merge.Entry(r.Tag, l.Name, w), true
	case lens.Plunge:
		return w.Get(l.Name)
	case lens.Lift:
		return lower(e, p, w)
	case lens.Sink:
		return raise(l, w)
	case lens.Translate:
		return translate(l, w)
	case lens.Fill:
		w, _ = Drop(*l, w)
		fallthrough
	case lens.Id, lens.Copy, lens.Filter:
		return w, true
	}
	return value.Value{}, false
}

// lower is the new source by a Lift; false, if its sources have no mapping behind Name.
func lower(e check.Env, p *check.Plan, w value.Value) (value.Value, bool) {
	r, _ := typ.Resolve(e.Defs.Types, p.Source)
	named := func(f typ.Field) bool { return f.Key == p.Lens.Name }
	i := slices.IndexFunc(r.Fields, named)
	if i < 0 {
		return value.Value{}, false
	}
	below, _ := typ.Resolve(e.Defs.Types, r.Fields[i].Type)
	var keys []string
	for _, f := range below.Fields {
		keys = append(keys, f.Key)
	}
	in, others := merge.Part(w, keys)
	in.Tag = below.Tag
	return merge.Lay(others, merge.Entry(w.Tag, p.Lens.Name, in)), true
}

// raise is the new source by a Sink; false, if nothing stands behind Name.
func raise(l *lens.Lens, w value.Value) (value.Value, bool) {
	in, ok := w.Get(l.Name)
	_, others := merge.Part(w, []string{l.Name})
	return merge.Lay(others, in), ok
}

// translate is the new source by a Translate; false, if the lens has no such word.
func translate(l *lens.Lens, w value.Value) (value.Value, bool) {
	i := slices.Index(l.Words, w.Text)
	if i < 0 {
		return value.Value{}, false
	}
	return value.Value{Kind: value.Scalar, Tag: w.Tag, Text: l.Keys[i]}, true
}
