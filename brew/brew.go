// Package brew makes types, lenses and values as they fall, for the layers' tests.
package brew

import (
	"slices"

	"stanhope/lens"
	"stanhope/typ"
)

// Maker makes types, lenses and values as they fall, with definitions.
type Maker struct {
	Pick func(n int) int // picks a number below n
	lens.Defs
	Often int // one of how many choices is wrong
	At    int // the place of the next lens
}

// Names are types, as spell reads them, for which names may stand in what is made.
const Names = "e=<str 'a' 'b'> in={map a:str c?:int} l=[seq $u] n=int r={!m b?:$s k:str v?:$t} s=str t=(str|[seq $t]) u=(str|int|[seq $s]|{map *:$s}) x=any"

// odd says whether a choice is to be wrong.
func (m *Maker) odd() bool { return m.Pick(m.Often) == 0 }

// one is one of some texts.
func one[T any](m *Maker, l ...T) T { return l[m.Pick(len(l))] }

// some are some of some texts, in order.
func some(m *Maker, l []string, least int) []string {
	l = slices.Clone(l)
	for len(l) > least && m.Pick(3) > 0 {
		i := m.Pick(len(l))
		l = slices.Delete(l, i, i+1)
	}
	return l
}

// key is a key.
func (m *Maker) key() string { return one(m, "a", "b", "c", "k", "v", "") }

// scalar makes a type of scalars.
func (m *Maker) scalar() typ.Type {
	switch m.Pick(4) {
	case 0:
		words := some(m, []string{"", "a", "b", "x", "y"}, 1)
		return typ.Type{Kind: typ.Enum, Tag: one(m, "str", "!a"), Words: words}
	case 1:
		return typ.Type{Kind: typ.Enum, Tag: "int", Words: some(m, []string{"0", "1", "2"}, 1)}
	}
	return typ.Type{Kind: typ.Scalar, Tag: one(m, "str", "int", "bool", "null", "!a")}
}

// record makes a type of mappings.
func (m *Maker) record(deep int) typ.Type {
	r := typ.Type{Kind: typ.Record, Tag: one(m, "map", "map", "map", "!m")}
	if m.Pick(3) > 0 {
		for _, k := range some(m, []string{"", "a", "b", "c", "k", "v"}, 1) {
			r.Fields = append(r.Fields, typ.Field{Key: k, Optional: m.Pick(3) == 0, Type: m.Typ(deep - 1)})
		}
	}
	if m.Pick(5) == 0 || len(r.Fields) == 0 {
		r.Items = []typ.Type{m.Typ(deep - 1)}
	}
	return r
}

// union makes a type of what is of one of several others.
func (m *Maker) union(deep int) typ.Type {
	for {
		u := typ.Type{Kind: typ.Union}
		for range 2 + m.Pick(3) {
			u.Items = append(u.Items, m.Typ(deep-1))
		}
		if !typ.Check(m.Types, u).Bad() {
			return u
		}
	}
}

// Typ makes a type that may be.
func (m *Maker) Typ(deep int) typ.Type {
	if deep <= 0 {
		if m.Pick(4) == 0 {
			return typ.Type{Kind: typ.Name, Name: one(m, m.Types.Names...)}
		}
		return m.scalar()
	}
	switch m.Pick(12) {
	case 0, 1, 2, 3:
		return m.record(deep)
	case 4, 5:
		return typ.Type{Kind: typ.List, Tag: one(m, "seq", "seq", "!l"), Items: []typ.Type{m.Typ(deep - 1)}}
	case 6:
		r := m.record(deep)
		r.Fields = slices.DeleteFunc(r.Fields, func(f typ.Field) bool { return f.Key >= "k" })
		r.Fields = append(r.Fields, typ.Field{Key: "k", Type: m.scalar()})
		if m.Pick(2) == 0 {
			r.Fields = append(r.Fields, typ.Field{Key: "v", Optional: m.Pick(2) == 0, Type: m.Typ(deep - 1)})
		}
		return typ.Type{Kind: typ.Keyed, Tag: "seq", Name: "k", Items: []typ.Type{r}}
	case 7, 8:
		return m.union(deep)
	case 9:
		return typ.Type{Kind: one(m, typ.Dag, typ.Any)}
	}
	return m.Typ(0)
}
