package check_test

import (
	"fmt"
	"maps"
	"math/rand"
	"slices"
	"strings"
	"testing"

	"stanhope/api"
	"stanhope/carve"
	"stanhope/check"
	"stanhope/fault"
	"stanhope/grind"
	"stanhope/lens"
	"stanhope/resolve"
	"stanhope/spell"
	"stanhope/typ"
	"stanhope/value"
)

// slow tells slowly from which type to which a lens is.
type slow struct{ lens.Defs }

// bad is what is wrong, with the way to it.
type bad struct {
	errno api.Errno
	way   []fault.Step
}

// need ends it, where something isn't so.
func need(ok bool) {
	if !ok {
		panic(bad{errno: api.ErrLens})
	}
}

// flat is a type, resolved.
func (d slow) flat(t typ.Type) typ.Type {
	for t.Kind == typ.Name {
		t = d.Types.Types[slices.Index(d.Types.Names, t.Name)]
	}
	return t
}

// fits says whether two types fit.
func (d slow) fits(a, b typ.Type) bool {
	return typ.Show(a) == typ.Show(b) || typ.Show(d.flat(a)) == typ.Show(d.flat(b))
}

// heads are a type's heads; false, if a part of it has none.
func (d slow) heads(t typ.Type) (map[string]bool, bool) {
	m := map[string]bool{}
	switch t = d.flat(t); t.Kind {
	case typ.Union:
		for _, i := range t.Items {
			h, ok := d.heads(i)
			if !ok {
				return nil, false
			}
			maps.Copy(m, h)
		}
	case typ.Dag, typ.Any:
		return nil, false
	default:
		m[map[typ.Kind]string{typ.Scalar: ".", typ.Enum: ".", typ.List: "[", typ.Keyed: "[", typ.Record: "{"}[t.Kind]+t.Tag] = true
	}
	return m, true
}

// is says whether a literal is of a type.
func (d slow) is(v value.Value, t typ.Type) bool {
	t = d.flat(t)
	switch t.Kind {
	case typ.Scalar:
		return v.Kind == value.Scalar && v.Tag == t.Tag
	case typ.Enum:
		return v.Kind == value.Scalar && v.Tag == t.Tag && slices.Contains(t.Words, v.Text)
	case typ.Record:
		return v.Kind == value.Map && v.Tag == t.Tag && !slices.ContainsFunc(t.Fields, func(f typ.Field) bool { return !f.Optional })
	case typ.List, typ.Keyed:
		return v.Kind == value.Seq && v.Tag == t.Tag
	case typ.Union:
		return slices.ContainsFunc(t.Items, func(i typ.Type) bool { return d.is(v, i) })
	}
	return false
}

// fields are the fields of a Record by their keys.
func fields(r typ.Type) map[string]typ.Field {
	need(r.Kind == typ.Record)
	m := map[string]typ.Field{}
	for _, f := range r.Fields {
		m[f.Key] = f
	}
	return m
}

// made is the Record of some fields.
func made(tag string, m map[string]typ.Field, rest []typ.Type) typ.Type {
	r := typ.Type{Kind: typ.Record, Tag: tag, Items: rest}
	for _, k := range slices.Sorted(maps.Keys(m)) {
		r.Fields = append(r.Fields, typ.Field{Key: k, Optional: m[k].Optional, Type: m[k].Type})
	}
	return r
}

// view is the type of a lens's views; what is wrong ends it.
func (d slow) view(l lens.Lens, s typ.Type) typ.Type {
	defer func() {
		switch e := recover().(type) {
		case nil:
		case bad:
			e.way = append([]fault.Step{{Word: kindWords[l.Kind], At: l.At}}, e.way...)
			panic(e)
		default:
			panic(e)
		}
	}()
	r := d.flat(s)
	switch l.Kind {
	case lens.Id:
		return s
	case lens.Copy:
		need(r.Kind == typ.Any || r.Kind == typ.Dag)
		return s
	case lens.Const:
		need(d.is(l.Values[1], s))
		return typ.Type{Kind: typ.Enum, Tag: l.Values[0].Tag, Words: []string{l.Values[0].Text}}
	case lens.Compose:
		for _, k := range l.Kids {
			s = d.view(k, s)
		}
		return s
	case lens.Plunge:
		return made("map", map[string]typ.Field{l.Name: {Type: s}}, nil)
	case lens.Translate:
		need(r.Kind == typ.Enum && slices.Equal(r.Words, l.Keys))
		for _, w := range l.Words {
			need(resolve.Right(r.Tag, w))
		}
		l.Words = slices.Clone(l.Words)
		slices.Sort(l.Words)
		return typ.Type{Kind: typ.Enum, Tag: r.Tag, Words: l.Words}
	case lens.Use:
		i := slices.Index(d.Names, l.Name)
		if i < 0 {
			panic(bad{errno: api.ErrName})
		}
		need(d.fits(s, d.Lenses[i].Source))
		return d.Lenses[i].View
	case lens.Filter, lens.Map, lens.Items, lens.Keyed, lens.Union:
		return d.held(l, r)
	}
	return d.record(l, r, fields(r))
}

// held is the view of a lens over what collections, or Unions, hold.
func (d slow) held(l lens.Lens, r typ.Type) typ.Type {
	bare := r.Kind == typ.Record && len(r.Fields) == 0 && len(r.Items) == 1
	switch l.Kind {
	case lens.Filter:
		need(bare || r.Kind == typ.List)
		u := d.flat(r.Items[0])
		need(u.Kind == typ.Union)
		r.Items = []typ.Type{d.left(u, l.Words)}
	case lens.Map:
		need(bare)
		r.Items = []typ.Type{d.view(l.Kids[0], r.Items[0])}
	case lens.Items:
		need(r.Kind == typ.List)
		r.Items = []typ.Type{d.view(l.Kids[0], r.Items[0])}
	case lens.Keyed:
		need(r.Kind == typ.Keyed && d.Keeps(l.Kids[0], r.Name))
		v := d.view(l.Kids[0], r.Items[0])
		f, ok := fields(d.flat(v))[r.Name]
		need(ok && !f.Optional && d.fits(f.Type, fields(d.flat(r.Items[0]))[r.Name].Type))
		r.Items = []typ.Type{v}
	case lens.Union:
		need(r.Kind == typ.Union && len(r.Items) == len(l.Kids))
		u := typ.Type{Kind: typ.Union}
		for i, k := range l.Kids {
			u.Items = append(u.Items, d.view(k, r.Items[i]))
		}
		need(!typ.Check(d.Types, u).Bad())
		return u
	}
	return r
}

// left is what is left of a Union's Items, if those stay whose heads are words.
func (d slow) left(u typ.Type, words []string) typ.Type {
	var stay []typ.Type
	met := map[string]bool{}
	for _, i := range u.Items {
		heads, _ := d.heads(i)
		n := 0
		for h := range heads {
			if slices.Contains(words, h) {
				met[h] = true
				n++
			}
		}
		need(n == 0 || n == len(heads))
		if n > 0 {
			stay = append(stay, i)
		}
	}
	need(len(stay) > 0 && len(stay) < len(u.Items))
	for _, w := range words {
		need(met[w])
	}
	if len(stay) == 1 {
		return stay[0]
	}
	return typ.Type{Kind: typ.Union, Items: stay}
}

// record is the view of a lens over Records.
func (d slow) record(l lens.Lens, r typ.Type, m map[string]typ.Field) typ.Type {
	shut := len(r.Items) == 0
	field, named := m[l.Name]
	all := true
	for _, k := range l.Keys {
		_, ok := m[k]
		all = all && ok
	}
	switch l.Kind {
	case lens.Project:
		need(all)
		dropped := 0
		for k, f := range m {
			if slices.Contains(l.Keys, k) {
				continue
			}
			delete(m, k)
			i := slices.Index(l.Drops, k)
			need((i >= 0) != f.Optional)
			if i >= 0 {
				need(d.is(l.Values[i], f.Type))
				dropped++
			}
		}
		need(dropped == len(l.Drops))
		return made(r.Tag, m, nil)
	case lens.Rename:
		need(shut && all)
		n := map[string]typ.Field{}
		for k, f := range m {
			if i := slices.Index(l.Keys, k); i >= 0 {
				k = l.Words[i]
			}
			n[k] = f
		}
		need(len(n) == len(m))
		return made(r.Tag, n, nil)
	case lens.Hoist:
		need(shut && len(m) == 1 && named && !field.Optional)
		return field.Type
	case lens.Lift:
		need(shut && named && !field.Optional)
		in := d.flat(field.Type)
		inner := fields(in)
		need(len(in.Items) == 0)
		delete(m, l.Name)
		n := len(m) + len(inner)
		maps.Copy(m, inner)
		need(len(m) == n)
		return made(r.Tag, m, nil)
	case lens.Sink:
		need(shut && all)
		sunk := map[string]typ.Field{}
		for _, k := range l.Keys {
			sunk[k] = m[k]
			delete(m, k)
		}
		_, taken := m[l.Name]
		need(!taken)
		m[l.Name] = typ.Field{Type: made("map", sunk, nil)}
		return made(r.Tag, m, nil)
	case lens.On:
		need(all)
		for i, k := range l.Keys {
			m[k] = typ.Field{Optional: m[k].Optional, Type: d.view(l.Kids[i], m[k].Type)}
		}
		return made(r.Tag, m, r.Items)
	case lens.Fill:
		need(named && field.Optional && d.is(l.Values[0], field.Type))
		m[l.Name] = typ.Field{Type: field.Type}
		return made(r.Tag, m, r.Items)
	}
	panic(l.Kind)
}

// try is the text of the type of a lens's views, or what is wrong with it.
func (d slow) try(l lens.Lens, s typ.Type) (text string, b bad) {
	defer func() {
		if e := recover(); e != nil {
			b = e.(bad)
		}
	}()
	return typ.Show(d.view(l, s)), b
}

// hold holds what is told of a lens by a type against what is told slowly, with what plays no part, too.
func hold(t *testing.T, d lens.Defs, l lens.Lens, s typ.Type) api.Errno {
	t.Helper()
	want, b := slow{d}.try(l, s)
	for i, x := range []lens.Lens{l, grind.Noisy(l)} {
		defs, source := d, s
		if i > 0 {
			defs, source = noisy(d), spell.Noisy(s)
		}
		got, f, way := tell(t, defs, x, source)
		if got != want || f.Errno != b.errno || !slices.Equal(way, b.way) || f.Bad() && f.At != way[len(way)-1].At {
			t.Fatalf("%s by %s: %s %v at %d on the way %v, not %s %v on the way %v", show(l), typ.Show(s), got, f, f.At, way, want, b.errno, b.way)
		}
	}
	return b.errno
}

// show is a lens's text.
func show(l lens.Lens) string {
	s := fmt.Sprintf("%s@%d %q %q %q %q %v", kindWords[l.Kind], l.At, l.Name, l.Keys, l.Words, l.Drops, l.Values)
	for _, k := range l.Kids {
		s += " {" + show(k) + "}"
	}
	return s
}

// maker makes types and lenses as they fall.
type maker struct {
	*rand.Rand
	lens.Defs
	at    int
	often int // one of how many choices is wrong
}

// odd says whether a choice is to be wrong.
func (m *maker) odd() bool { return m.Intn(m.often) == 0 }

// one is one of some texts.
func one[T any](m *maker, l ...T) T { return l[m.Intn(len(l))] }

// some are some of some texts, in order.
func some(m *maker, l []string, least int) []string {
	l = slices.Clone(l)
	for len(l) > least && m.Intn(3) > 0 {
		i := m.Intn(len(l))
		l = slices.Delete(l, i, i+1)
	}
	return l
}

// key is a key.
func (m *maker) key() string { return one(m, "a", "b", "c", "k", "v", "") }

// scalar makes a type of scalars.
func (m *maker) scalar() typ.Type {
	switch m.Intn(4) {
	case 0:
		words := some(m, []string{"", "a", "b", "x", "y"}, 1)
		return typ.Type{Kind: typ.Enum, Tag: one(m, "str", "!a"), Words: words}
	case 1:
		return typ.Type{Kind: typ.Enum, Tag: "int", Words: some(m, []string{"0", "1", "2"}, 1)}
	}
	return typ.Type{Kind: typ.Scalar, Tag: one(m, "str", "int", "bool", "null", "!a")}
}

// record makes a type of mappings.
func (m *maker) record(deep int) typ.Type {
	r := typ.Type{Kind: typ.Record, Tag: one(m, "map", "map", "map", "!m")}
	if m.Intn(3) > 0 {
		for _, k := range some(m, []string{"", "a", "b", "c", "k", "v"}, 1) {
			r.Fields = append(r.Fields, typ.Field{Key: k, Optional: m.Intn(3) == 0, Type: m.typ(deep - 1)})
		}
	}
	if m.Intn(5) == 0 || len(r.Fields) == 0 {
		r.Items = []typ.Type{m.typ(deep - 1)}
	}
	return r
}

// union makes a type of what is of one of several others.
func (m *maker) union(deep int) typ.Type {
	for {
		u := typ.Type{Kind: typ.Union}
		for range 2 + m.Intn(3) {
			u.Items = append(u.Items, m.typ(deep-1))
		}
		if !typ.Check(m.Types, u).Bad() {
			return u
		}
	}
}

// typ makes a type that may be.
func (m *maker) typ(deep int) typ.Type {
	if deep <= 0 {
		if m.Intn(4) == 0 {
			return typ.Type{Kind: typ.Name, Name: one(m, m.Types.Names...)}
		}
		return m.scalar()
	}
	switch m.Intn(12) {
	case 0, 1, 2, 3:
		return m.record(deep)
	case 4, 5:
		return typ.Type{Kind: typ.List, Tag: one(m, "seq", "seq", "!l"), Items: []typ.Type{m.typ(deep - 1)}}
	case 6:
		r := m.record(deep)
		r.Fields = slices.DeleteFunc(r.Fields, func(f typ.Field) bool { return f.Key >= "k" })
		r.Fields = append(r.Fields, typ.Field{Key: "k", Type: m.scalar()})
		if m.Intn(2) == 0 {
			r.Fields = append(r.Fields, typ.Field{Key: "v", Optional: m.Intn(2) == 0, Type: m.typ(deep - 1)})
		}
		return typ.Type{Kind: typ.Keyed, Tag: "seq", Name: "k", Items: []typ.Type{r}}
	case 7, 8:
		return m.union(deep)
	case 9:
		return typ.Type{Kind: one(m, typ.Dag, typ.Any)}
	}
	return m.typ(0)
}

// literal makes a literal, mostly of a type.
func (m *maker) literal(t typ.Type, scalar bool) value.Value {
	l := []value.Value{carve.Str(""), carve.Str("a"), carve.Str("x"), carve.Str("z"), carve.Scalar("int", "0"), carve.Scalar("int", "7"), carve.Scalar("bool", "true"), carve.Scalar("null", ""), carve.Scalar("!a", "a"), carve.Scalar("!a", "b")}
	if !scalar {
		l = append(l, carve.Seq(), carve.Map(""), carve.Tagged("!l", carve.Seq()), carve.Tagged("!m", carve.Map("")))
	}
	var right []value.Value
	for _, v := range l {
		if value.Of(m.Types, t, v) {
			right = append(right, v)
		}
	}
	if len(right) > 0 && !m.odd() {
		return one(m, right...)
	}
	return one(m, l...)
}

// keys are the keys of a Record's fields, or others.
func (m *maker) keys(r typ.Type) []string {
	var l []string
	for _, f := range r.Fields {
		l = append(l, f.Key)
	}
	if r.Kind != typ.Record || m.odd() {
		l = append(l, m.key())
		slices.Sort(l)
		l = slices.Compact(l)
	}
	return l
}

// kind is a kind of lens, mostly one that may be right by a type that is resolved.
func (m *maker) kind(r typ.Type, deep int) lens.Kind {
	l := []lens.Kind{lens.Id, lens.Plunge, lens.Const, lens.Use}
	if deep > 0 {
		l = append(l, lens.Compose, lens.Compose, lens.Compose)
	}
	switch r.Kind {
	case typ.Record:
		l = append(l, m.records(r, deep)...)
	case typ.List:
		l = append(l, lens.Filter, lens.Filter)
		if deep > 0 {
			l = append(l, lens.Items, lens.Items, lens.Items)
		}
	case typ.Keyed:
		if deep > 0 {
			l = append(l, lens.Keyed, lens.Keyed, lens.Keyed, lens.Keyed)
		}
	case typ.Union:
		if deep > 0 {
			l = append(l, lens.Union, lens.Union, lens.Union, lens.Union)
		}
	case typ.Enum:
		l = append(l, lens.Translate, lens.Translate)
	case typ.Dag, typ.Any:
		l = append(l, lens.Copy, lens.Copy, lens.Copy)
	}
	if m.odd() {
		l = []lens.Kind{lens.Copy, lens.Project, lens.Rename, lens.Hoist, lens.Lift, lens.Sink, lens.Filter, lens.Map, lens.Items, lens.Keyed, lens.On, lens.Union, lens.Fill, lens.Translate}
	}
	return one(m, l...)
}

// records are kinds that may be right by a Record.
func (m *maker) records(r typ.Type, deep int) []lens.Kind {
	if len(r.Fields) == 0 {
		l := []lens.Kind{lens.Filter, lens.Filter, lens.Project, lens.Map, lens.Map, lens.Map}
		if deep <= 0 {
			return l[:3]
		}
		return l
	}
	l := []lens.Kind{lens.Project, lens.Project, lens.Fill}
	if deep > 0 {
		l = append(l, lens.On, lens.On, lens.On)
	}
	if len(r.Items) > 0 && !m.odd() {
		return l
	}
	l = append(l, lens.Rename, lens.Rename, lens.Sink, lens.Sink)
	for _, f := range r.Fields {
		if in, _ := typ.Resolve(m.Types, f.Type); in.Kind == typ.Record {
			l = append(l, lens.Lift, lens.Lift, lens.Lift, lens.Lift)
		}
	}
	if len(r.Fields) == 1 || m.odd() {
		l = append(l, lens.Hoist, lens.Hoist)
	}
	return l
}

// lens makes a lens that layer 17 lets stand, mostly right by a type.
func (m *maker) lens(s typ.Type, deep int) lens.Lens {
	r, _ := typ.Resolve(m.Types, s)
	l := lens.Lens{At: m.at, Kind: m.kind(r, deep), Name: m.key()}
	m.at++
	switch l.Kind {
	case lens.Const:
		l.Values = []value.Value{m.literal(m.scalar(), true), m.literal(s, false)}
	case lens.Compose, lens.Map, lens.Items, lens.Keyed, lens.On, lens.Union:
		m.around(&l, s, r, deep)
	case lens.Filter:
		m.filter(&l, r)
	case lens.Translate:
		l.Keys = r.Words
		if m.odd() || len(l.Keys) == 0 {
			l.Keys = some(m, []string{"a", "b"}, 1)
		}
		l.Words = []string{"", "0", "1", "7", "a", "b", "true", "x"}
		if r.Tag == "int" && !m.odd() {
			l.Words = []string{"0", "-1", "7", "10", "2"}
		}
		m.Shuffle(len(l.Words), func(i, j int) { l.Words[i], l.Words[j] = l.Words[j], l.Words[i] })
		l.Words = l.Words[:len(l.Keys)]
	case lens.Use:
		l.Name = one(m, m.Names...)
		for range 20 { // mostly of one that has such sources
			if d, ok := m.Find(l.Name); ok && check.Fit(m.Types, s, d.Source) || m.odd() {
				break
			}
			l.Name = one(m, m.Names...)
		}
		if m.odd() {
			l.Name = "none"
		}
	default:
		m.fields(&l, r)
	}
	return l
}

// around makes the Kids of a lens.
func (m *maker) around(l *lens.Lens, s, r typ.Type, deep int) {
	switch l.Kind {
	case lens.Compose:
		for range 1 + m.Intn(4) {
			k := m.lens(s, deep-1)
			l.Kids = append(l.Kids, k)
			if p, f := check.Check(m.Defs, k, s); !f.Bad() {
				s = p.View
			}
		}
	case lens.On:
		l.Keys = some(m, m.keys(r), 1)
		if len(l.Keys) == 0 {
			l.Keys = []string{m.key()}
		}
		for _, k := range l.Keys {
			of := s
			for _, f := range r.Fields {
				if f.Key == k {
					of = f.Type
				}
			}
			l.Kids = append(l.Kids, m.lens(of, deep-1))
		}
	case lens.Union:
		for _, i := range r.Items {
			l.Kids = append(l.Kids, m.lens(i, deep-1))
		}
		for len(l.Kids) < 2 || m.odd() {
			l.Kids = append(l.Kids, m.lens(s, deep-1))
		}
	default:
		of := s
		if len(r.Items) > 0 {
			of = r.Items[0]
		}
		l.Kids = []lens.Lens{m.lens(of, deep-1)}
		for range 10 { // mostly one that keeps the key
			if l.Kind != lens.Keyed || m.Keeps(l.Kids[0], r.Name) {
				break
			}
			l.Kids[0] = m.lens(of, deep-1)
		}
	}
}

// filter makes the Words of a Filter.
func (m *maker) filter(l *lens.Lens, r typ.Type) {
	if len(r.Items) > 0 {
		u, _ := typ.Resolve(m.Types, r.Items[0])
		for _, i := range u.Items {
			if heads, _ := typ.Heads(m.Types, i); m.Intn(2) == 0 {
				l.Words = append(l.Words, heads...)
			}
		}
	}
	if len(l.Words) == 0 || m.odd() {
		l.Words = append(l.Words, one(m, ".str", ".int", "{map", "[seq", "", "x"))
	}
	slices.Sort(l.Words)
	l.Words = slices.Compact(l.Words)
}

// fields makes what a lens over Records has.
func (m *maker) fields(l *lens.Lens, r typ.Type) {
	keys := m.keys(r)
	if len(keys) == 0 {
		keys = []string{m.key()}
	}
	switch l.Kind {
	case lens.Project:
		l.Keys = some(m, keys, 0)
		for _, f := range r.Fields {
			if !slices.Contains(l.Keys, f.Key) && (!f.Optional || m.odd()) && !m.odd() {
				l.Drops = append(l.Drops, f.Key)
				l.Values = append(l.Values, m.literal(f.Type, false))
			}
		}
		if m.odd() {
			l.Drops, l.Values = nil, nil
			for _, k := range some(m, []string{"", "a", "b", "c"}, 0) {
				if !slices.Contains(l.Keys, k) {
					l.Drops, l.Values = append(l.Drops, k), append(l.Values, m.literal(m.scalar(), false))
				}
			}
		}
	case lens.Rename:
		l.Keys = some(m, keys, 1)
		l.Words = []string{"a", "b", "c", "k", "v", "", "x", "y", "z"}
		m.Shuffle(len(l.Words), func(i, j int) { l.Words[i], l.Words[j] = l.Words[j], l.Words[i] })
		l.Words = l.Words[:len(l.Keys)]
		if m.Intn(3) == 0 { // among themselves
			l.Words = slices.Clone(l.Keys)
			m.Shuffle(len(l.Words), func(i, j int) { l.Words[i], l.Words[j] = l.Words[j], l.Words[i] })
		}
	case lens.Sink:
		l.Keys = some(m, keys, 1)
	case lens.Hoist, lens.Lift, lens.Fill:
		l.Name = one(m, keys...)
		of := m.scalar()
		for _, f := range r.Fields { // mostly one that will do
			in, _ := typ.Resolve(m.Types, f.Type)
			if (l.Kind == lens.Fill && f.Optional || l.Kind == lens.Lift && in.Kind == typ.Record) && m.Intn(4) > 0 {
				l.Name = f.Key
			}
			if f.Key == l.Name {
				of = f.Type
			}
		}
		if l.Kind == lens.Fill {
			l.Values = []value.Value{m.literal(of, true)}
		}
	}
}

// names are the types that names stand for in what is made.
const names = "e=<str 'a' 'b'> in={map a:str c?:int} l=[seq $u] n=int r={!m b?:$s k:str v?:$t} s=str t=(str|[seq $t]) u=(str|int|[seq $s]|{map *:$s}) x=any"

// P18.1, P18.4: lenses by types, as they fall.
func TestMade(t *testing.T) {
	m := &maker{Rand: rand.New(rand.NewSource(18)), Defs: defs, often: 25}
	m.Types = spell.Defs(names)
	m.Names, m.Lenses = nil, nil
	for i := range 12 {
		s := m.typ(i % 3)
		m.Names = append(m.Names, fmt.Sprintf("f%02d", i))
		m.Lenses = append(m.Lenses, lens.Def{Source: s, View: m.typ(i % 3), Lens: lens.Lens{Kind: lens.Id}})
	}
	met := map[api.Errno]int{}
	kinds, wrong := map[lens.Kind]int{}, map[lens.Kind]int{}
	for range 25000 {
		s := m.typ(m.Intn(4))
		m.at = 0
		l := m.lens(s, m.Intn(4))
		if f := l.Check(); f.Bad() {
			t.Fatalf("%s: %v at %d", show(l), f, f.At)
		}
		e := hold(t, m.Defs, l, s)
		met[e]++
		if e == api.OK {
			count(l, kinds)
		} else {
			_, b := slow{m.Defs}.try(l, s)
			wrong[lens.Kind(slices.Index(kindWords, b.way[len(b.way)-1].Word))]++
		}
	}
	if met[api.OK] < 5000 || met[api.ErrLens] < 5000 || met[api.ErrName] < 100 {
		t.Error(met)
	}
	for k := lens.Id; k <= lens.Use; k++ {
		if kinds[k] < 60 || wrong[k] < 60 && k != lens.Id && k != lens.Plunge && k != lens.Compose {
			t.Errorf("%s: %d, wrong %d", check.Word(k), kinds[k], wrong[k])
		}
	}
}

// count counts the kinds of the lenses in a lens.
func count(l lens.Lens, n map[lens.Kind]int) {
	n[l.Kind]++
	for _, k := range l.Kids {
		count(k, n)
	}
}

// program is what is wrong with definitions, told slowly.
func (d slow) program() api.Fault {
	if f := d.Types.Check(); f.Bad() {
		return f
	}
	for _, x := range d.Lenses {
		for _, f := range []api.Fault{typ.Check(d.Types, x.Source), typ.Check(d.Types, x.View), x.Lens.Check()} {
			if f.Bad() {
				return f
			}
		}
	}
	if f := d.Turns(); f.Bad() {
		return f
	}
	for _, x := range d.Lenses {
		text, b := d.try(x.Lens, x.Source)
		if b.errno != api.OK {
			return api.Fault{Errno: b.errno, At: b.way[len(b.way)-1].At}
		}
		if view := d.view(x.Lens, x.Source); text != typ.Show(x.View) && !d.fits(view, x.View) {
			return api.Fault{Errno: api.ErrLens, At: x.Lens.At}
		}
	}
	return api.Fault{}
}

// P18.2: definitions as they fall, most of them as their lenses say.
func TestMadePrograms(t *testing.T) {
	m := &maker{Rand: rand.New(rand.NewSource(182)), often: 60}
	m.Types = spell.Defs(names)
	met := map[api.Errno]int{}
	for range 4000 {
		m.Names, m.Lenses, m.at = nil, nil, 0
		for i := range 1 + m.Intn(5) {
			s := m.typ(m.Intn(3))
			m.Names = append(m.Names, fmt.Sprintf("f%d", i))
			m.Lenses = append(m.Lenses, lens.Def{Source: s, View: m.typ(m.Intn(3)), Lens: lens.Lens{Kind: lens.Id}})
			x := &m.Lenses[i]
			x.Lens = m.lens(s, m.Intn(3))
			if p, f := check.Check(m.Defs, x.Lens, s); !f.Bad() && m.Intn(10) > 0 {
				x.View = p.View
			}
		}
		want := slow{m.Defs}.program()
		if f := program(t, m.Defs); f != want {
			t.Fatalf("%v at %d, not %v at %d: %s", f, f.At, want, want.At, showDefs(m.Defs))
		}
		met[want.Errno]++
	}
	if met[api.OK] < 500 || met[api.ErrLens] < 500 || met[api.ErrLoop] < 50 || met[api.ErrName] < 20 {
		t.Error(met)
	}
}

// showDefs is the text of definitions.
func showDefs(d lens.Defs) string {
	var l []string
	for i, x := range d.Lenses {
		l = append(l, d.Names[i]+": "+typ.Show(x.Source)+" to "+typ.Show(x.View)+" by "+show(x.Lens))
	}
	return strings.Join(l, "\n")
}
