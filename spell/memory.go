package spell

import (
	"slices"

	"stanhope/typ"
)

// Room is a list with room behind its end, in which something stands.
func Room[T any](l []T, behind T) []T {
	return append(slices.Clone(l), behind, behind)[:len(l)]
}

// Roomy is a type all lists of which have room behind their ends.
func Roomy(x typ.Type) typ.Type {
	behind := typ.Type{Kind: typ.Any, At: 99}
	x.Words = Room(x.Words, "behind")
	x.Fields = Room(x.Fields, typ.Field{Key: "behind", Type: behind})
	for i := range x.Fields {
		x.Fields[i].Type = Roomy(x.Fields[i].Type)
	}
	x.Items = Room(x.Items, behind)
	for i := range x.Items {
		x.Items[i] = Roomy(x.Items[i])
	}
	return x
}

// Whole is a type anew, with the room behind the ends of its lists.
func Whole(x typ.Type) typ.Type {
	x.Words = slices.Clone(x.Words[:cap(x.Words)])
	x.Fields = slices.Clone(x.Fields[:cap(x.Fields)])
	for i := range x.Fields {
		x.Fields[i].Type = Whole(x.Fields[i].Type)
	}
	x.Items = slices.Clone(x.Items[:cap(x.Items)])
	for i := range x.Items {
		x.Items[i] = Whole(x.Items[i])
	}
	return x
}

// Noisy is a type with other places in which everything stands that plays no part.
func Noisy(x typ.Type) typ.Type {
	x.At = 77 - 2*x.At
	junk := []typ.Type{{Kind: typ.Name, Name: "junk"}, {Kind: typ.Union}}
	part := func(plays bool, items []typ.Type) []typ.Type {
		if !plays {
			return junk
		}
		var l []typ.Type
		for _, i := range items {
			l = append(l, Noisy(i))
		}
		return l
	}
	k := x.Kind
	if k == typ.Union || k == typ.Name || k == typ.Dag || k == typ.Any {
		x.Tag = "junk"
	}
	if k != typ.Keyed && k != typ.Name {
		x.Name = "junk\xff"
	}
	if k != typ.Enum {
		x.Words = []string{"z", "junk", "\xff"}
	}
	fields := x.Fields
	x.Fields = nil
	if k == typ.Record {
		for _, f := range fields {
			x.Fields = append(x.Fields, typ.Field{Key: f.Key, Optional: f.Optional, Type: Noisy(f.Type)})
		}
	} else {
		x.Fields = []typ.Field{{Key: "k", Type: typ.Type{Kind: typ.Scalar, Tag: "str"}}, {Key: "a", Type: junk[0]}}
	}
	x.Items = part(k == typ.Record || k == typ.List || k == typ.Keyed || k == typ.Union, x.Items)
	return x
}

// Moved is a type anew, all places of which are greater by a number.
func Moved(x typ.Type, by int) typ.Type {
	x.At += by
	x.Fields = slices.Clone(x.Fields)
	for i := range x.Fields {
		x.Fields[i].Type = Moved(x.Fields[i].Type, by)
	}
	x.Items = slices.Clone(x.Items)
	for i := range x.Items {
		x.Items[i] = Moved(x.Items[i], by)
	}
	return x
}
