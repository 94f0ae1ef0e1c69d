package put

import (
	"slices"

	"stanhope/api"
	"stanhope/check"
	"stanhope/create"
	"stanhope/lens"
	"stanhope/merge"
	"stanhope/toil"
	"stanhope/typ"
	"stanhope/value"
)

// source is the source behind a view by a lens without Kids, and by each, where there is nothing to put it into.
func source(e check.Env, t toil.Task) (value.Value, api.Errno) {
	if t.Into == nil {
		return create.Bare(e, *t.Plan, *t.At)
	}
	l, w, s := &t.Plan.Lens, *t.At, *t.Into
	keys := l.Keys
	switch l.Kind {
	case lens.Const:
		return s, api.OK
	case lens.Filter:
		if w.Kind == value.Seq {
			return splice(l, w, s), api.OK
		}
		keys = shown(l, s)
		fallthrough
	case lens.Project:
		_, hidden := merge.Part(s, keys)
		return merge.Lay(hidden, w), api.OK
	case lens.Fill:
		if _, there := s.Get(l.Name); there {
			return w, api.OK
		}
	}
	return create.Bare(e, *t.Plan, w)
}

// shows says whether a Filter shows a value.
func shows(l *lens.Lens, v value.Value) bool {
	_, ok := slices.BinarySearch(l.Words, v.Head())
	return ok
}

// shown are the keys of the entries that a Filter shows.
func shown(l *lens.Lens, s value.Value) []string {
	var keys []string
	for i := range min(len(s.Keys), len(s.Kids)) {
		if shows(l, s.Kids[i]) {
			keys = append(keys, s.Keys[i])
		}
	}
	return keys
}

// splice is a sequence in which those of a view stand in the place of those that a Filter shows.
func splice(l *lens.Lens, w, s value.Value) value.Value {
	kept := func(v value.Value) bool { return shows(l, v) }
	return value.Value{Kind: value.Seq, Tag: s.Tag, Kids: merge.Splice(s.Kids, kept, w.Kids)}
}

// old tells, by the number of a view's part and its key, into what that is put; nil, if into nothing.
func old(e check.Env, t toil.Task) func(i int, key string) *value.Value {
	s := t.Into
	var number func(i int, key string) int
	switch t.Plan.Lens.Kind {
	case lens.Keyed:
		r, _ := typ.Resolve(e.Defs.Types, t.Plan.Source)
		pairs := merge.Pair(s.Kids, t.At.Kids, r.Name)
		number = func(i int, _ string) int { return pairs[i] }
	case lens.Items:
		number = func(i int, _ string) int { return i }
	default:
		number = func(_ int, key string) int {
			if i, ok := slices.BinarySearch(s.Keys, key); ok {
				return i
			}
			return -1
		}
	}
	return func(i int, key string) *value.Value {
		n := number(i, key)
		if n < 0 || n >= len(s.Kids) {
			return nil
		}
		return &s.Kids[n]
	}
}
