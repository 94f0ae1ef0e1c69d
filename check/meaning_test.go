package check_test

import (
	"fmt"
	"math/rand"
	"slices"
	"testing"

	"stanhope/carve"
	"stanhope/check"
	"stanhope/grind"
	"stanhope/lens"
	"stanhope/spell"
	"stanhope/typ"
	"stanhope/value"
)

// These tests ask whether a plan's types are those of what its lens does, by a plain reading of layers 20 and 21.

// meaning tells what lenses do.
type meaning struct{ check.Env }

// entries are a mapping's entries.
func entries(v value.Value) map[string]value.Value {
	m := map[string]value.Value{}
	for i, k := range v.Keys {
		m[k] = v.Kids[i]
	}
	return m
}

// mapping is the mapping of some entries.
func mapping(tag string, m map[string]value.Value) value.Value {
	v := value.Value{Kind: value.Map, Tag: tag}
	for k := range m {
		v.Keys = append(v.Keys, k)
	}
	slices.Sort(v.Keys)
	for _, k := range v.Keys {
		v.Kids = append(v.Kids, m[k])
	}
	return v
}

// each is a collection in which another value stands for each one.
func each(v value.Value, to func(value.Value) value.Value) value.Value {
	v.Kids = slices.Clone(v.Kids)
	for i := range v.Kids {
		v.Kids[i] = to(v.Kids[i])
	}
	return v
}

// branch is the number of the Item of a Union that has a value's head.
func (e meaning) branch(u typ.Type, v value.Value) int {
	u, _ = typ.Resolve(e.Defs.Types, u)
	return slices.IndexFunc(u.Items, func(i typ.Type) bool {
		heads, _ := typ.Heads(e.Defs.Types, i)
		return slices.Contains(heads, v.Head())
	})
}

// get is a plan's view.
func (e meaning) get(p check.Plan, v value.Value) value.Value {
	l := p.Lens
	m := entries(v)
	switch l.Kind {
	case lens.Id, lens.Copy:
		return v
	case lens.Const:
		return l.Values[0]
	case lens.Use:
		q, _ := e.Find(l.Name)
		return e.get(q, v)
	case lens.Compose:
		for _, k := range p.Kids {
			v = e.get(k, v)
		}
		return v
	case lens.Hoist:
		return m[l.Name]
	case lens.Plunge:
		return mapping("map", map[string]value.Value{l.Name: v})
	case lens.Map, lens.Items, lens.Keyed:
		return each(v, func(x value.Value) value.Value { return e.get(p.Kids[0], x) })
	case lens.Union:
		return e.get(p.Kids[e.branch(p.Source, v)], v)
	case lens.Translate:
		v.Text = l.Words[slices.Index(l.Keys, v.Text)]
		return v
	case lens.Filter:
		return filtered(v, l.Words)
	case lens.Project:
		for k := range entries(v) {
			if !slices.Contains(l.Keys, k) {
				delete(m, k)
			}
		}
	case lens.Rename:
		m = moved(v, l.Keys, l.Words)
	case lens.Lift:
		in := m[l.Name]
		delete(m, l.Name)
		for k, x := range entries(in) {
			m[k] = x
		}
	case lens.Sink:
		in := map[string]value.Value{}
		for _, k := range l.Keys {
			if x, ok := m[k]; ok {
				in[k] = x
				delete(m, k)
			}
		}
		m[l.Name] = mapping("map", in)
	case lens.On:
		for i, k := range l.Keys {
			if x, ok := m[k]; ok {
				m[k] = e.get(p.Kids[i], x)
			}
		}
	case lens.Fill:
		if _, ok := m[l.Name]; !ok {
			m[l.Name] = l.Values[0]
		}
	}
	return mapping(v.Tag, m)
}

// filtered is a collection of those alone whose heads are words.
func filtered(v value.Value, words []string) value.Value {
	f := value.Value{Kind: v.Kind, Tag: v.Tag}
	for i, x := range v.Kids {
		if slices.Contains(words, x.Head()) {
			f.Kids = append(f.Kids, x)
			if v.Kind == value.Map {
				f.Keys = append(f.Keys, v.Keys[i])
			}
		}
	}
	return f
}

// moved are a mapping's entries, some with other keys.
func moved(v value.Value, from, to []string) map[string]value.Value {
	m := map[string]value.Value{}
	for k, x := range entries(v) {
		if i := slices.Index(from, k); i >= 0 {
			k = to[i]
		}
		m[k] = x
	}
	return m
}

// create is a plan's new source.
func (e meaning) create(p check.Plan, w value.Value) value.Value {
	l := p.Lens
	m := entries(w)
	source, _ := typ.Resolve(e.Defs.Types, p.Source)
	switch l.Kind {
	case lens.Id, lens.Copy, lens.Filter:
		return w
	case lens.Const:
		return l.Values[1]
	case lens.Use:
		q, _ := e.Find(l.Name)
		return e.create(q, w)
	case lens.Compose:
		for _, k := range slices.Backward(p.Kids) {
			w = e.create(k, w)
		}
		return w
	case lens.Hoist:
		return mapping(source.Tag, map[string]value.Value{l.Name: w})
	case lens.Plunge:
		return m[l.Name]
	case lens.Map, lens.Items, lens.Keyed:
		return each(w, func(x value.Value) value.Value { return e.create(p.Kids[0], x) })
	case lens.Union:
		return e.create(p.Kids[e.branch(p.View, w)], w)
	case lens.Translate:
		w.Text = l.Keys[slices.Index(l.Words, w.Text)]
		return w
	case lens.Project:
		for i, k := range l.Drops {
			m[k] = l.Values[i]
		}
	case lens.Rename:
		m = moved(w, l.Words, l.Keys)
	case lens.Lift:
		in := map[string]value.Value{}
		inner, _ := typ.Resolve(e.Defs.Types, fields(source)[l.Name].Type)
		for _, f := range inner.Fields {
			if x, ok := m[f.Key]; ok {
				in[f.Key] = x
				delete(m, f.Key)
			}
		}
		m[l.Name] = mapping(inner.Tag, in)
	case lens.Sink:
		in := m[l.Name]
		delete(m, l.Name)
		for k, x := range entries(in) {
			m[k] = x
		}
	case lens.On:
		for i, k := range l.Keys {
			if x, ok := m[k]; ok {
				m[k] = e.create(p.Kids[i], x)
			}
		}
	case lens.Fill:
		if value.Same(m[l.Name], l.Values[0]) {
			delete(m, l.Name)
		}
	}
	return mapping(w.Tag, m)
}

// value makes a value of a type.
func (m *maker) value(t typ.Type, deep int) value.Value {
	t, _ = typ.Resolve(m.Types, t)
	switch t.Kind {
	case typ.Scalar:
		texts := map[string][]string{"null": {""}, "bool": {"true", "false"}, "int": {"0", "1", "-5", "7"}, "str": {"", "a", "x", "z"}}
		if l, ok := texts[t.Tag]; ok {
			return carve.Scalar(t.Tag, one(m, l...))
		}
		return carve.Scalar(t.Tag, one(m, "", "a", "b"))
	case typ.Enum:
		return carve.Scalar(t.Tag, one(m, t.Words...))
	case typ.Record:
		e := map[string]value.Value{}
		if len(t.Items) > 0 && deep > 0 {
			for _, k := range some(m, []string{"a", "b", "k", "q", "r"}, 0) {
				e[k] = m.value(t.Items[0], deep-1)
			}
		}
		for _, f := range t.Fields {
			delete(e, f.Key)
			if !f.Optional || deep > 0 && m.Intn(2) == 0 {
				e[f.Key] = m.value(f.Type, deep-1)
			}
		}
		return mapping(t.Tag, e)
	case typ.List, typ.Keyed:
		v := value.Value{Kind: value.Seq, Tag: t.Tag}
		met := map[string]bool{}
		for range m.Intn(4) * min(deep, 1) {
			x := m.value(t.Items[0], deep-1)
			if k, _ := x.Get(t.Name); t.Kind == typ.List || !met[k.Text] {
				v.Kids = append(v.Kids, x)
				met[k.Text] = true
			}
		}
		return v
	case typ.Union:
		if deep <= 0 {
			return m.value(t.Items[0], deep-1)
		}
		return m.value(one(m, t.Items...), deep-1)
	}
	return carve.Leaf(m.Intn(5))
}

// holdMeaning holds a plan's types against what its lens does with values of these.
func holdMeaning(t *testing.T, m *maker, e meaning, p check.Plan) {
	t.Helper()
	for range 3 {
		v := m.value(p.Source, 3)
		if !value.Of(m.Types, p.Source, v) {
			t.Fatalf("%+v is no %s", v, typ.Show(p.Source))
		}
		if w := e.get(p, v); !value.Of(m.Types, p.View, w) || !w.May() {
			t.Fatalf("%s by %s: of %+v comes %+v, which is no %s", show(p.Lens), typ.Show(p.Source), v, w, typ.Show(p.View))
		}
		w := m.value(p.View, 3)
		if !value.Of(m.Types, p.View, w) {
			t.Fatalf("%+v is no %s", w, typ.Show(p.View))
		}
		s := e.create(p, w)
		if !value.Of(m.Types, p.Source, s) || !s.May() {
			t.Fatalf("%s by %s: of %+v is made %+v, which is none", show(p.Lens), typ.Show(p.Source), w, s)
		}
		if x := e.get(p, s); !value.Same(x, w) {
			t.Fatalf("%s by %s: of %+v is made %+v, of which comes %+v", show(p.Lens), typ.Show(p.Source), w, s, x)
		}
	}
}

// W5: a lens leads from its type of sources to its type of views, and back.
func TestMeaning(t *testing.T) {
	m := &maker{Rand: rand.New(rand.NewSource(5)), often: 200}
	m.Types = spell.Defs(names)
	kinds := map[lens.Kind]int{}
	for range 300 {
		// Definitions, each of which has a lens that is right, or none, and uses those ahead of it.
		m.Names, m.Lenses = []string{"f0"}, []lens.Def{{Source: spell.Type("$t"), View: spell.Type("$t"), Lens: lens.Lens{Kind: lens.Id}}}
		for i := 1; i < 5; i++ {
			s := m.typ(m.Intn(3))
			p, f := check.Check(m.Defs, m.lens(s, m.Intn(3)), s)
			if !f.Bad() {
				m.Names, m.Lenses = append(m.Names, fmt.Sprintf("f%d", i)), append(m.Lenses, lens.Def{Source: s, View: p.View, Lens: p.Lens})
			}
		}
		env, f := check.Ready(m.Defs)
		if f.Bad() {
			t.Fatalf("%v at %d: %s", f, f.At, showDefs(m.Defs))
		}
		for _, p := range env.Plans {
			holdMeaning(t, m, meaning{env}, p)
		}
		for range 60 {
			s := m.typ(m.Intn(4))
			if p, f := check.Check(m.Defs, m.lens(s, m.Intn(4)), s); !f.Bad() {
				count(p.Lens, kinds)
				holdMeaning(t, m, meaning{env}, p)
			}
		}
	}
	for k := lens.Id; k <= lens.Use; k++ {
		if kinds[k] < 50 {
			t.Errorf("%s: %d", check.Word(k), kinds[k])
		}
	}
}

// W5: definitions that lead back to themselves, too.
func TestMeaningDefs(t *testing.T) {
	env, f := check.Ready(defs)
	if f.Bad() {
		t.Fatal(f, f.At)
	}
	m := &maker{Rand: rand.New(rand.NewSource(6)), Defs: defs, often: 200}
	for range 200 {
		for _, p := range env.Plans {
			holdMeaning(t, m, meaning{env}, p)
		}
		for _, c := range all {
			p, f := check.Check(defs, grind.Lens(c.lens), spell.Type(c.right))
			if f.Bad() {
				t.Fatalf("%s by %s: %v at %d", c.lens, c.right, f, f.At)
			}
			holdMeaning(t, m, meaning{env}, p)
		}
	}
}
