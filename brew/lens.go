package brew

import (
	"slices"
	"strconv"

	"stanhope/carve"
	"stanhope/check"
	"stanhope/lens"
	"stanhope/typ"
	"stanhope/value"
)

// literal makes a literal, mostly of a type.
func (m *Maker) literal(t typ.Type, scalar bool) value.Value {
	l := []value.Value{carve.Str(""), carve.Str("a"), carve.Str("x"), carve.Str("z"), carve.Scalar("int", "0"), carve.Scalar("int", "7"), carve.Scalar("bool", "true"), carve.Scalar("null", ""), carve.Scalar("!a", "a"), carve.Scalar("!a", "b")}
	if !scalar {
		l = append(l, carve.Seq(), carve.Map(""), carve.Tagged("!l", carve.Seq()), carve.Tagged("!m", carve.Map("")))
	}
	var right []value.Value
	for _, v := range l {
		if value.Of(m.Types, t, v) {
			right = append(right, v)
		}
	}
	if len(right) > 0 && !m.odd() {
		return one(m, right...)
	}
	return one(m, l...)
}

// keys are the keys of a Record's fields, or others.
func (m *Maker) keys(r typ.Type) []string {
	var l []string
	for _, f := range r.Fields {
		l = append(l, f.Key)
	}
	if r.Kind != typ.Record || m.odd() {
		l = append(l, m.key())
		slices.Sort(l)
		l = slices.Compact(l)
	}
	return l
}

// kind is a kind of lens, mostly one that may be right by a type that is resolved.
func (m *Maker) kind(r typ.Type, deep int) lens.Kind {
	l := []lens.Kind{lens.Id, lens.Plunge, lens.Const, lens.Use}
	if deep > 0 {
		l = append(l, lens.Compose, lens.Compose, lens.Compose)
	}
	switch r.Kind {
	case typ.Record:
		l = append(l, m.records(r, deep)...)
	case typ.List:
		l = append(l, lens.Filter, lens.Filter)
		if deep > 0 {
			l = append(l, lens.Items, lens.Items, lens.Items)
		}
	case typ.Keyed:
		if deep > 0 {
			l = append(l, lens.Keyed, lens.Keyed, lens.Keyed, lens.Keyed)
		}
	case typ.Union:
		if deep > 0 {
			l = append(l, lens.Union, lens.Union, lens.Union, lens.Union)
		}
	case typ.Enum:
		l = append(l, lens.Translate, lens.Translate)
	case typ.Dag, typ.Any:
		l = append(l, lens.Copy, lens.Copy, lens.Copy)
	}
	if m.odd() {
		l = []lens.Kind{lens.Copy, lens.Project, lens.Rename, lens.Hoist, lens.Lift, lens.Sink, lens.Filter, lens.Map, lens.Items, lens.Keyed, lens.On, lens.Union, lens.Fill, lens.Translate}
	}
	return one(m, l...)
}

// records are kinds that may be right by a Record.
func (m *Maker) records(r typ.Type, deep int) []lens.Kind {
	if len(r.Fields) == 0 {
		l := []lens.Kind{lens.Filter, lens.Filter, lens.Project, lens.Map, lens.Map, lens.Map}
		if deep <= 0 {
			return l[:3]
		}
		return l
	}
	l := []lens.Kind{lens.Project, lens.Project, lens.Fill}
	if deep > 0 {
		l = append(l, lens.On, lens.On, lens.On)
	}
	if len(r.Items) > 0 && !m.odd() {
		return l
	}
	l = append(l, lens.Rename, lens.Rename, lens.Sink, lens.Sink)
	for _, f := range r.Fields {
		if in, _ := typ.Resolve(m.Types, f.Type); in.Kind == typ.Record {
			l = append(l, lens.Lift, lens.Lift, lens.Lift, lens.Lift)
		}
	}
	if len(r.Fields) == 1 || m.odd() {
		l = append(l, lens.Hoist, lens.Hoist)
	}
	return l
}

// Define makes the definitions anew: some at most, each with a lens that is right by its
// Source and uses those ahead of it, and readies them.
func (m *Maker) Define(most int) check.Env {
	t := typ.Type{Kind: typ.Name, Name: one(m, m.Types.Names...)}
	m.Names, m.Lenses = []string{"f0"}, []lens.Def{{Source: t, View: t, Lens: lens.Lens{Kind: lens.Id}}}
	for i := 1; i < most; i++ {
		s := m.Typ(m.Pick(3))
		if p, f := check.Check(m.Defs, m.Lens(s, m.Pick(3)), s); !f.Bad() {
			m.Names = append(m.Names, "f"+strconv.Itoa(i))
			m.Lenses = append(m.Lenses, lens.Def{Source: s, View: p.View, Lens: p.Lens})
		}
	}
	e, f := check.Ready(m.Defs)
	if f.Bad() {
		panic("brew: " + f.Word() + " at " + strconv.Itoa(f.At))
	}
	return e
}

// Plan makes a plan with the definitions.
func (m *Maker) Plan() check.Plan {
	for {
		s := m.Typ(m.Pick(4))
		if p, f := check.Check(m.Defs, m.Lens(s, m.Pick(4)), s); !f.Bad() {
			return p
		}
	}
}

// Lens makes a lens that layer 17 lets stand, mostly right by a type.
func (m *Maker) Lens(s typ.Type, deep int) lens.Lens {
	r, _ := typ.Resolve(m.Types, s)
	l := lens.Lens{At: m.At, Kind: m.kind(r, deep), Name: m.key()}
	m.At++
	switch l.Kind {
	case lens.Const:
		l.Values = []value.Value{m.literal(m.scalar(), true), m.literal(s, false)}
	case lens.Compose, lens.Map, lens.Items, lens.Keyed, lens.On, lens.Union:
		m.around(&l, s, r, deep)
	case lens.Filter:
		m.filter(&l, r)
	case lens.Translate:
		l.Keys = r.Words
		if m.odd() || len(l.Keys) == 0 {
			l.Keys = some(m, []string{"a", "b"}, 1)
		}
		l.Words = []string{"", "0", "1", "7", "a", "b", "true", "x"}
		if r.Tag == "int" && !m.odd() {
			l.Words = []string{"0", "-1", "7", "10", "2"}
		}
		m.mix(l.Words)
		l.Words = l.Words[:len(l.Keys)]
	case lens.Use:
		l.Name = one(m, m.Names...)
		for range 20 { // mostly of one that has such sources
			if d, ok := m.Find(l.Name); ok && check.Fit(m.Types, s, d.Source) || m.odd() {
				break
			}
			l.Name = one(m, m.Names...)
		}
		if m.odd() {
			l.Name = "none"
		}
	default:
		m.fields(&l, r)
	}
	return l
}

// around makes the Kids of a lens.
func (m *Maker) around(l *lens.Lens, s, r typ.Type, deep int) {
	switch l.Kind {
	case lens.Compose:
		for range 1 + m.Pick(4) {
			k := m.Lens(s, deep-1)
			l.Kids = append(l.Kids, k)
			if p, f := check.Check(m.Defs, k, s); !f.Bad() {
				s = p.View
			}
		}
	case lens.On:
		l.Keys = some(m, m.keys(r), 1)
		if len(l.Keys) == 0 {
			l.Keys = []string{m.key()}
		}
		for _, k := range l.Keys {
			of := s
			for _, f := range r.Fields {
				if f.Key == k {
					of = f.Type
				}
			}
			l.Kids = append(l.Kids, m.Lens(of, deep-1))
		}
	case lens.Union:
		for _, i := range r.Items {
			l.Kids = append(l.Kids, m.Lens(i, deep-1))
		}
		for len(l.Kids) < 2 || m.odd() {
			l.Kids = append(l.Kids, m.Lens(s, deep-1))
		}
	default:
		of := s
		if len(r.Items) > 0 {
			of = r.Items[0]
		}
		l.Kids = []lens.Lens{m.Lens(of, deep-1)}
		for range 10 { // mostly one that keeps the key
			if l.Kind != lens.Keyed || m.Keeps(l.Kids[0], r.Name) {
				break
			}
			l.Kids[0] = m.Lens(of, deep-1)
		}
	}
}

// filter makes the Words of a Filter.
func (m *Maker) filter(l *lens.Lens, r typ.Type) {
	if len(r.Items) > 0 {
		u, _ := typ.Resolve(m.Types, r.Items[0])
		for _, i := range u.Items {
			if heads, _ := typ.Heads(m.Types, i); m.Pick(2) == 0 {
				l.Words = append(l.Words, heads...)
			}
		}
	}
	if len(l.Words) == 0 || m.odd() {
		l.Words = append(l.Words, one(m, ".str", ".int", "{map", "[seq", "", "x"))
	}
	slices.Sort(l.Words)
	l.Words = slices.Compact(l.Words)
}

// fields makes what a lens over Records has.
func (m *Maker) fields(l *lens.Lens, r typ.Type) {
	keys := m.keys(r)
	if len(keys) == 0 {
		keys = []string{m.key()}
	}
	switch l.Kind {
	case lens.Project:
		l.Keys = some(m, keys, 0)
		for _, f := range r.Fields {
			if !slices.Contains(l.Keys, f.Key) && (!f.Optional || m.odd()) && !m.odd() {
				l.Drops = append(l.Drops, f.Key)
				l.Values = append(l.Values, m.literal(f.Type, false))
			}
		}
		if m.odd() {
			l.Drops, l.Values = nil, nil
			for _, k := range some(m, []string{"", "a", "b", "c"}, 0) {
				if !slices.Contains(l.Keys, k) {
					l.Drops, l.Values = append(l.Drops, k), append(l.Values, m.literal(m.scalar(), false))
				}
			}
		}
	case lens.Rename:
		l.Keys = some(m, keys, 1)
		l.Words = []string{"a", "b", "c", "k", "v", "", "x", "y", "z"}
		m.mix(l.Words)
		l.Words = l.Words[:len(l.Keys)]
		if m.Pick(3) == 0 { // among themselves
			l.Words = slices.Clone(l.Keys)
			m.mix(l.Words)
		}
	case lens.Sink:
		l.Keys = some(m, keys, 1)
	case lens.Hoist, lens.Lift, lens.Fill:
		l.Name = one(m, keys...)
		of := m.scalar()
		for _, f := range r.Fields { // mostly one that will do
			in, _ := typ.Resolve(m.Types, f.Type)
			if (l.Kind == lens.Fill && f.Optional || l.Kind == lens.Lift && in.Kind == typ.Record) && m.Pick(4) > 0 {
				l.Name = f.Key
			}
			if f.Key == l.Name {
				of = f.Type
			}
		}
		if l.Kind == lens.Fill {
			l.Values = []value.Value{m.literal(of, true)}
		}
	}
}

// mix lays texts in any order.
func (m *Maker) mix(l []string) {
	for i := range l {
		j := m.Pick(i + 1)
		l[i], l[j] = l[j], l[i]
	}
}

// Count counts the kinds of the lenses in a lens.
func Count(l lens.Lens, n map[lens.Kind]int) {
	n[l.Kind]++
	for _, k := range l.Kids {
		Count(k, n)
	}
}
