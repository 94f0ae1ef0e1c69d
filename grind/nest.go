package grind

import (
	"stanhope/carve"
	"stanhope/lens"
	"stanhope/typ"
	"stanhope/value"
)

// Arounds are the words of the kinds that may stand around one lens, whatever it is.
func Arounds() []string { return []string{"compose", "map", "items", "on", "keyed"} }

// Nest is a lens within those of a word's kind, so many times, with the type of its sources and a source.
func Nest(word string, n int, l lens.Lens, s typ.Type, v value.Value) (lens.Lens, typ.Type, value.Value) {
	for range n {
		l, s, v = wrapped(word, l, s, v)
	}
	return l, s, v
}

// wrapped is what stands around a lens, the type of its sources and a source, all at the place 1.
func wrapped(word string, l lens.Lens, s typ.Type, v value.Value) (lens.Lens, typ.Type, value.Value) {
	out, kids := lens.Lens{Kind: lens.Compose, At: 1}, []lens.Lens{{Kind: lens.Id}, l}
	str, num := typ.Type{Kind: typ.Scalar, Tag: "str"}, typ.Type{Kind: typ.Scalar, Tag: "int"}
	switch word {
	case "map":
		out.Kind, kids = lens.Map, kids[1:]
		s, v = typ.Type{Kind: typ.Record, Tag: "map", Items: []typ.Type{s}}, carve.Map("a", v)
	case "items":
		out.Kind, kids = lens.Items, kids[1:]
		s, v = typ.Type{Kind: typ.List, Tag: "seq", Items: []typ.Type{s}}, carve.Seq(v)
	case "on":
		out.Kind, out.Keys, kids = lens.On, []string{"b"}, kids[1:]
		s = typ.Type{Kind: typ.Record, Tag: "map", Fields: []typ.Field{{Key: "a", Type: num}, {Key: "b", Type: s}}}
		v = carve.Map("a b", carve.Scalar("int", "1"), v)
	case "keyed":
		out.Kind, kids = lens.Keyed, []lens.Lens{{Kind: lens.On, Keys: []string{"v"}, Kids: kids[1:]}}
		r := typ.Type{Kind: typ.Record, Tag: "map", Fields: []typ.Field{{Key: "k", Type: str}, {Key: "v", Type: s}}}
		s, v = typ.Type{Kind: typ.Keyed, Tag: "seq", Name: "k", Items: []typ.Type{r}}, carve.Seq(carve.Map("k v", carve.Str("x"), v))
	}
	out.Kids = kids
	return out, s, v
}
