// Package gist tells plainly what lenses do, as layers 20 to 22 say it, for the layers' tests.
package gist

import (
	"slices"

	"stanhope/api"
	"stanhope/carve"
	"stanhope/check"
	"stanhope/typ"
	"stanhope/value"
)

// Get is a plan's view of a value that is of its Source; false, if a Compose's Kid has one of more nodes than a graph may have.
func Get(e check.Env, p check.Plan, v value.Value) (value.Value, bool) {
	r := reading{env: e}
	w := r.get(p, v)
	return w, !r.many
}

// Create is a plan's new source of a value that is of its View; false, if a Compose's Kid has one of more nodes than a graph may have.
func Create(e check.Env, p check.Plan, w value.Value) (value.Value, bool) {
	r := reading{env: e}
	v := r.create(p, w)
	return v, !r.many
}

// Put is a plan's source behind a view of its View, of a source of its Source; false, if a Compose's Kid has one, or a view but the last, of more nodes than a graph may have.
func Put(e check.Env, p check.Plan, w, s value.Value) (value.Value, bool) {
	r := reading{env: e}
	v := r.put(p, w, s)
	return v, !r.many
}

// reading reads what the lenses of definitions do.
type reading struct {
	env  check.Env
	many bool // whether a Compose's Kid made more nodes than there may be
}

// resolved is a type, resolved.
func (r *reading) resolved(t typ.Type) typ.Type {
	t, _ = typ.Resolve(r.env.Defs.Types, t)
	return t
}

// branch is the number of the Item of a Union that has a value's head.
func (r *reading) branch(u typ.Type, v value.Value) int {
	return slices.IndexFunc(r.resolved(u).Items, func(i typ.Type) bool {
		heads, _ := typ.Heads(r.env.Defs.Types, i)
		return slices.Contains(heads, v.Head())
	})
}

// counted is what a Compose's Kid made.
func (r *reading) counted(v value.Value) value.Value {
	r.many = r.many || v.Size() > api.MaxNodes
	return v
}

// each is a collection in which another value stands for each one.
func each(v value.Value, to func(value.Value) value.Value) value.Value {
	v.Kids = slices.Clone(v.Kids)
	for i := range v.Kids {
		v.Kids[i] = to(v.Kids[i])
	}
	return v
}

// among are a mapping's entries whose keys are among some, or those whose aren't.
func among(v value.Value, keys []string, in bool) map[string]value.Value {
	m := make(map[string]value.Value)
	for k, x := range carve.Entries(v) {
		if slices.Contains(keys, k) == in {
			m[k] = x
		}
	}
	return m
}

// both are the entries of a mapping, and of what stands behind one of its keys, but for that key.
func both(v value.Value, key string) value.Value {
	m := among(v, []string{key}, false)
	in, _ := v.Get(key)
	for k, x := range carve.Entries(in) {
		m[k] = x
	}
	return carve.Laid(v.Tag, m)
}

// below is a mapping in which the entries of some keys stand behind another key, as a mapping of a tag.
func below(v value.Value, keys []string, key, tag string) value.Value {
	m := among(v, keys, false)
	m[key] = carve.Laid(tag, among(v, keys, true))
	return carve.Laid(v.Tag, m)
}

// moved is a mapping in which the entries of some keys have others.
func moved(v value.Value, from, to []string) value.Value {
	m := make(map[string]value.Value)
	for k, x := range carve.Entries(v) {
		if i := slices.Index(from, k); i >= 0 {
			k = to[i]
		}
		m[k] = x
	}
	return carve.Laid(v.Tag, m)
}
