package check_test

import (
	"fmt"
	"maps"
	"math/rand"
	"slices"
	"strings"
	"testing"

	"stanhope/api"
	"stanhope/brew"
	"stanhope/check"
	"stanhope/fault"
	"stanhope/grind"
	"stanhope/lens"
	"stanhope/resolve"
	"stanhope/spell"
	"stanhope/typ"
	"stanhope/value"
)

// slow tells slowly from which type to which a lens is.
type slow struct{ lens.Defs }

// bad is what is wrong, with the way to it.
type bad struct {
	errno api.Errno
	way   []fault.Step
}

// need ends it, where something isn't so.
func need(ok bool) {
	if !ok {
		panic(bad{errno: api.ErrLens})
	}
}

// flat is a type, resolved.
func (d slow) flat(t typ.Type) typ.Type {
	for t.Kind == typ.Name {
		t = d.Types.Types[slices.Index(d.Types.Names, t.Name)]
	}
	return t
}

// fits says whether two types fit.
func (d slow) fits(a, b typ.Type) bool {
	return typ.Show(a) == typ.Show(b) || typ.Show(d.flat(a)) == typ.Show(d.flat(b))
}

// heads are a type's heads; false, if a part of it has none.
func (d slow) heads(t typ.Type) (map[string]bool, bool) {
	m := map[string]bool{}
	switch t = d.flat(t); t.Kind {
	case typ.Union:
		for _, i := range t.Items {
			h, ok := d.heads(i)
			if !ok {
				return nil, false
			}
			maps.Copy(m, h)
		}
	case typ.Dag, typ.Any:
		return nil, false
	default:
		m[map[typ.Kind]string{typ.Scalar: ".", typ.Enum: ".", typ.List: "[", typ.Keyed: "[", typ.Record: "{"}[t.Kind]+t.Tag] = true
	}
	return m, true
}

// is says whether a literal is of a type.
func (d slow) is(v value.Value, t typ.Type) bool {
	t = d.flat(t)
	switch t.Kind {
	case typ.Scalar:
		return v.Kind == value.Scalar && v.Tag == t.Tag
	case typ.Enum:
		return v.Kind == value.Scalar && v.Tag == t.Tag && slices.Contains(t.Words, v.Text)
	case typ.Record:
		return v.Kind == value.Map && v.Tag == t.Tag && !slices.ContainsFunc(t.Fields, func(f typ.Field) bool { return !f.Optional })
	case typ.List, typ.Keyed:
		return v.Kind == value.Seq && v.Tag == t.Tag
	case typ.Union:
		return slices.ContainsFunc(t.Items, func(i typ.Type) bool { return d.is(v, i) })
	}
	return false
}

// fields are the fields of a Record by their keys.
func fields(r typ.Type) map[string]typ.Field {
	need(r.Kind == typ.Record)
	m := map[string]typ.Field{}
	for _, f := range r.Fields {
		m[f.Key] = f
	}
	return m
}

// made is the Record of some fields.
func made(tag string, m map[string]typ.Field, rest []typ.Type) typ.Type {
	r := typ.Type{Kind: typ.Record, Tag: tag, Items: rest}
	for _, k := range slices.Sorted(maps.Keys(m)) {
		r.Fields = append(r.Fields, typ.Field{Key: k, Optional: m[k].Optional, Type: m[k].Type})
	}
	return r
}

// view is the type of a lens's views; what is wrong ends it.
func (d slow) view(l lens.Lens, s typ.Type) typ.Type {
	defer func() {
		switch e := recover().(type) {
		case nil:
		case bad:
			e.way = append([]fault.Step{{Word: kindWords[l.Kind], At: l.At}}, e.way...)
			panic(e)
		default:
			panic(e)
		}
	}()
	r := d.flat(s)
	switch l.Kind {
	case lens.Id:
		return s
	case lens.Copy:
		need(r.Kind == typ.Any || r.Kind == typ.Dag)
		return s
	case lens.Const:
		need(d.is(l.Values[1], s))
		return typ.Type{Kind: typ.Enum, Tag: l.Values[0].Tag, Words: []string{l.Values[0].Text}}
	case lens.Compose:
		for _, k := range l.Kids {
			s = d.view(k, s)
		}
		return s
	case lens.Plunge:
		return made("map", map[string]typ.Field{l.Name: {Type: s}}, nil)
	case lens.Translate:
		need(r.Kind == typ.Enum && slices.Equal(r.Words, l.Keys))
		for _, w := range l.Words {
			need(resolve.Right(r.Tag, w))
		}
		l.Words = slices.Clone(l.Words)
		slices.Sort(l.Words)
		return typ.Type{Kind: typ.Enum, Tag: r.Tag, Words: l.Words}
	case lens.Use:
		i := slices.Index(d.Names, l.Name)
		if i < 0 {
			panic(bad{errno: api.ErrName})
		}
		need(d.fits(s, d.Lenses[i].Source))
		return d.Lenses[i].View
	case lens.Filter, lens.Map, lens.Items, lens.Keyed, lens.Union:
		return d.held(l, r)
	}
	return d.record(l, r, fields(r))
}

// held is the view of a lens over what collections, or Unions, hold.
func (d slow) held(l lens.Lens, r typ.Type) typ.Type {
	bare := r.Kind == typ.Record && len(r.Fields) == 0 && len(r.Items) == 1
	switch l.Kind {
	case lens.Filter:
		need(bare || r.Kind == typ.List)
		u := d.flat(r.Items[0])
		need(u.Kind == typ.Union)
		r.Items = []typ.Type{d.left(u, l.Words)}
	case lens.Map:
		need(bare)
		r.Items = []typ.Type{d.view(l.Kids[0], r.Items[0])}
	case lens.Items:
		need(r.Kind == typ.List)
		r.Items = []typ.Type{d.view(l.Kids[0], r.Items[0])}
	case lens.Keyed:
		need(r.Kind == typ.Keyed && d.Keeps(l.Kids[0], r.Name))
		v := d.view(l.Kids[0], r.Items[0])
		f, ok := fields(d.flat(v))[r.Name]
		need(ok && !f.Optional && d.fits(f.Type, fields(d.flat(r.Items[0]))[r.Name].Type))
		r.Items = []typ.Type{v}
	case lens.Union:
		need(r.Kind == typ.Union && len(r.Items) == len(l.Kids))
		u := typ.Type{Kind: typ.Union}
		for i, k := range l.Kids {
			u.Items = append(u.Items, d.view(k, r.Items[i]))
		}
		need(!typ.Check(d.Types, u).Bad())
		return u
	}
	return r
}

// left is what is left of a Union's Items, if those stay whose heads are words.
func (d slow) left(u typ.Type, words []string) typ.Type {
	var stay []typ.Type
	met := map[string]bool{}
	for _, i := range u.Items {
		heads, _ := d.heads(i)
		n := 0
		for h := range heads {
			if slices.Contains(words, h) {
				met[h] = true
				n++
			}
		}
		need(n == 0 || n == len(heads))
		if n > 0 {
			stay = append(stay, i)
		}
	}
	need(len(stay) > 0 && len(stay) < len(u.Items))
	for _, w := range words {
		need(met[w])
	}
	if len(stay) == 1 {
		return stay[0]
	}
	return typ.Type{Kind: typ.Union, Items: stay}
}

// record is the view of a lens over Records.
func (d slow) record(l lens.Lens, r typ.Type, m map[string]typ.Field) typ.Type {
	shut := len(r.Items) == 0
	field, named := m[l.Name]
	all := true
	for _, k := range l.Keys {
		_, ok := m[k]
		all = all && ok
	}
	switch l.Kind {
	case lens.Project:
		need(all)
		dropped := 0
		for k, f := range m {
			if slices.Contains(l.Keys, k) {
				continue
			}
			delete(m, k)
			i := slices.Index(l.Drops, k)
			need((i >= 0) != f.Optional)
			if i >= 0 {
				need(d.is(l.Values[i], f.Type))
				dropped++
			}
		}
		need(dropped == len(l.Drops))
		return made(r.Tag, m, nil)
	case lens.Rename:
		need(shut && all)
		n := map[string]typ.Field{}
		for k, f := range m {
			if i := slices.Index(l.Keys, k); i >= 0 {
				k = l.Words[i]
			}
			n[k] = f
		}
		need(len(n) == len(m))
		return made(r.Tag, n, nil)
	case lens.Hoist:
		need(shut && len(m) == 1 && named && !field.Optional)
		return field.Type
	case lens.Lift:
		need(shut && named && !field.Optional)
		in := d.flat(field.Type)
		inner := fields(in)
		need(len(in.Items) == 0)
		delete(m, l.Name)
		n := len(m) + len(inner)
		maps.Copy(m, inner)
		need(len(m) == n)
		return made(r.Tag, m, nil)
	case lens.Sink:
		need(shut && all)
		sunk := map[string]typ.Field{}
		for _, k := range l.Keys {
			sunk[k] = m[k]
			delete(m, k)
		}
		_, taken := m[l.Name]
		need(!taken)
		m[l.Name] = typ.Field{Type: made("map", sunk, nil)}
		return made(r.Tag, m, nil)
	case lens.On:
		need(all)
		for i, k := range l.Keys {
			m[k] = typ.Field{Optional: m[k].Optional, Type: d.view(l.Kids[i], m[k].Type)}
		}
		return made(r.Tag, m, r.Items)
	case lens.Fill:
		need(named && field.Optional && d.is(l.Values[0], field.Type))
		m[l.Name] = typ.Field{Type: field.Type}
		return made(r.Tag, m, r.Items)
	}
	panic(l.Kind)
}

// try is the text of the type of a lens's views, or what is wrong with it.
func (d slow) try(l lens.Lens, s typ.Type) (text string, b bad) {
	defer func() {
		if e := recover(); e != nil {
			b = e.(bad)
		}
	}()
	return typ.Show(d.view(l, s)), b
}

// hold holds what is told of a lens by a type against what is told slowly, with what plays no part, too.
func hold(t *testing.T, d lens.Defs, l lens.Lens, s typ.Type) api.Errno {
	t.Helper()
	want, b := slow{d}.try(l, s)
	for i, x := range []lens.Lens{l, grind.Noisy(l)} {
		defs, source := d, s
		if i > 0 {
			defs, source = grind.NoisyProgram(d), spell.Noisy(s)
		}
		got, f, way := tell(t, defs, x, source)
		if got != want || f.Errno != b.errno || !slices.Equal(way, b.way) || f.Bad() && f.At != way[len(way)-1].At {
			t.Fatalf("%s by %s: %s %v at %d on the way %v, not %s %v on the way %v", show(l), typ.Show(s), got, f, f.At, way, want, b.errno, b.way)
		}
	}
	return b.errno
}

// show is a lens's text.
func show(l lens.Lens) string {
	s := fmt.Sprintf("%s@%d %q %q %q %q %v", kindWords[l.Kind], l.At, l.Name, l.Keys, l.Words, l.Drops, l.Values)
	for _, k := range l.Kids {
		s += " {" + show(k) + "}"
	}
	return s
}

// P18.1, P18.4: lenses by types, as they fall.
func TestMade(t *testing.T) {
	m := &brew.Maker{Pick: rand.New(rand.NewSource(18)).Intn, Often: 25}
	m.Types = spell.Defs(brew.Names)
	for i := range 12 {
		s := m.Typ(i % 3)
		m.Names = append(m.Names, fmt.Sprintf("f%02d", i))
		m.Lenses = append(m.Lenses, lens.Def{Source: s, View: m.Typ(i % 3), Lens: lens.Lens{Kind: lens.Id}})
	}
	met := map[api.Errno]int{}
	kinds, wrong := map[lens.Kind]int{}, map[lens.Kind]int{}
	for range 25000 {
		s := m.Typ(m.Pick(4))
		m.At = 0
		l := m.Lens(s, m.Pick(4))
		if f := l.Check(); f.Bad() {
			t.Fatalf("%s: %v at %d", show(l), f, f.At)
		}
		e := hold(t, m.Defs, l, s)
		met[e]++
		if e == api.OK {
			brew.Count(l, kinds)
		} else {
			_, b := slow{m.Defs}.try(l, s)
			wrong[lens.Kind(slices.Index(kindWords, b.way[len(b.way)-1].Word))]++
		}
	}
	if met[api.OK] < 5000 || met[api.ErrLens] < 5000 || met[api.ErrName] < 100 {
		t.Error(met)
	}
	for k := lens.Id; k <= lens.Use; k++ {
		if kinds[k] < 60 || wrong[k] < 60 && k != lens.Id && k != lens.Plunge && k != lens.Compose {
			t.Errorf("%s: %d, wrong %d", check.Word(k), kinds[k], wrong[k])
		}
	}
}

// program is what is wrong with definitions, told slowly.
func (d slow) program() api.Fault {
	if f := d.Types.Check(); f.Bad() {
		return f
	}
	for _, x := range d.Lenses {
		for _, f := range []api.Fault{typ.Check(d.Types, x.Source), typ.Check(d.Types, x.View), x.Lens.Check()} {
			if f.Bad() {
				return f
			}
		}
	}
	if f := d.Turns(); f.Bad() {
		return f
	}
	for _, x := range d.Lenses {
		text, b := d.try(x.Lens, x.Source)
		if b.errno != api.OK {
			return api.Fault{Errno: b.errno, At: b.way[len(b.way)-1].At}
		}
		if view := d.view(x.Lens, x.Source); text != typ.Show(x.View) && !d.fits(view, x.View) {
			return api.Fault{Errno: api.ErrLens, At: x.Lens.At}
		}
	}
	return api.Fault{}
}

// P18.2: definitions as they fall, most of them as their lenses say.
func TestMadePrograms(t *testing.T) {
	m := &brew.Maker{Pick: rand.New(rand.NewSource(182)).Intn, Often: 60}
	m.Types = spell.Defs(brew.Names)
	met := map[api.Errno]int{}
	for range 4000 {
		m.Names, m.Lenses, m.At = nil, nil, 0
		for i := range 1 + m.Pick(5) {
			s := m.Typ(m.Pick(3))
			m.Names = append(m.Names, fmt.Sprintf("f%d", i))
			m.Lenses = append(m.Lenses, lens.Def{Source: s, View: m.Typ(m.Pick(3)), Lens: lens.Lens{Kind: lens.Id}})
			x := &m.Lenses[i]
			x.Lens = m.Lens(s, m.Pick(3))
			if p, f := check.Check(m.Defs, x.Lens, s); !f.Bad() && m.Pick(10) > 0 {
				x.View = p.View
			}
		}
		want := slow{m.Defs}.program()
		if f := program(t, m.Defs); f != want {
			t.Fatalf("%v at %d, not %v at %d: %s", f, f.At, want, want.At, showDefs(m.Defs))
		}
		met[want.Errno]++
	}
	if met[api.OK] < 500 || met[api.ErrLens] < 500 || met[api.ErrLoop] < 50 || met[api.ErrName] < 20 {
		t.Error(met)
	}
}

// showDefs is the text of definitions.
func showDefs(d lens.Defs) string {
	var l []string
	for i, x := range d.Lenses {
		l = append(l, d.Names[i]+": "+typ.Show(x.Source)+" to "+typ.Show(x.View)+" by "+show(x.Lens))
	}
	return strings.Join(l, "\n")
}
