package carve

import (
	"slices"

	"stanhope/value"
)

// Roomy is a value whose lists have room behind their ends, in which something stands.
func Roomy(v value.Value) value.Value {
	v.Keys = append(slices.Clone(v.Keys), "behind", "a")[:len(v.Keys)]
	kids := v.Kids
	v.Kids = nil
	for _, k := range kids {
		v.Kids = append(v.Kids, Roomy(k))
	}
	v.Kids = append(v.Kids, Str("behind"), Leaf(9))[:len(kids)]
	return v
}

// Whole is a value anew, with the room behind the ends of its lists.
func Whole(v value.Value) value.Value {
	v.Keys = slices.Clone(v.Keys[:cap(v.Keys)])
	v.Kids = slices.Clone(v.Kids[:cap(v.Kids)])
	for i, k := range v.Kids {
		v.Kids[i] = Whole(k)
	}
	return v
}
