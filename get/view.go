package get

import (
	"slices"

	"stanhope/lens"
	"stanhope/merge"
	"stanhope/value"
)

// plain is the tag of mappings that have no other one.
const plain = "map"

// view is the view by a lens without Kids; false, if there is none.
func view(l *lens.Lens, v value.Value) (value.Value, bool) {
	switch l.Kind {
	case lens.Const:
		return l.Values[0], true
	case lens.Project:
		kept, _ := merge.Part(v, l.Keys)
		return kept, true
	case lens.Rename:
		return merge.Move(v, l.Keys, l.Words), true
	case lens.Hoist:
		return v.Get(l.Name)
	case lens.Plunge:
		return merge.Entry(plain, l.Name, v), true
	case lens.Lift:
		return lift(l, v)
	case lens.Sink:
		return sink(l, v), true
	case lens.Filter:
		return filter(l, v), true
	case lens.Translate:
		return translate(l, v)
	case lens.Fill:
		v = merge.Lay(merge.Entry(v.Tag, l.Name, l.Values[0]), v)
		fallthrough
	case lens.Id, lens.Copy:
		return v, true
	}
	return value.Value{}, false
}

// lift is the view by a Lift.
func lift(l *lens.Lens, v value.Value) (value.Value, bool) {
	in, ok := v.Get(l.Name)
	_, others := merge.Part(v, []string{l.Name})
	return merge.Lay(others, in), ok
}

// sink is the view by a Sink.
func sink(l *lens.Lens, v value.Value) value.Value {
	in, others := merge.Part(v, l.Keys)
	in.Tag = plain
	return merge.Lay(others, merge.Entry(plain, l.Name, in))
}

// filter is the view by a Filter.
func filter(l *lens.Lens, v value.Value) value.Value {
	stays := func(x value.Value) bool {
		_, ok := slices.BinarySearch(l.Words, x.Head())
		return ok
	}
	left := value.Value{Kind: v.Kind, Tag: v.Tag}
	for i := range len(v.Kids) {
		if !stays(v.Kids[i]) {
			continue
		}
		left.Kids = append(left.Kids, v.Kids[i])
		if v.Kind == value.Map && i < len(v.Keys) {
			left.Keys = append(left.Keys, v.Keys[i])
		}
	}
	return left
}

// translate is the view by a Translate; false, if the lens has no such key.
func translate(l *lens.Lens, v value.Value) (value.Value, bool) {
	i, ok := slices.BinarySearch(l.Keys, v.Text)
	if !ok {
		return value.Value{}, false
	}
	return value.Value{Kind: value.Scalar, Tag: v.Tag, Text: l.Words[i]}, true
}
