package lens

import (
	"slices"

	"stanhope/api"
	"stanhope/char"
	"stanhope/resolve"
	"stanhope/value"
)

// Literal says whether a value is a literal.
func Literal(v value.Value) bool {
	switch v.Kind {
	case value.Seq, value.Map:
		if len(v.Kids) > 0 {
			return false
		}
		fallthrough
	case value.Scalar:
		return v.May()
	}
	return false
}

// Check is what is wrong with a lens.
func (l Lens) Check() api.Fault {
	for s := range l.each() {
		if !s.of.formed() {
			return api.Fault{Errno: api.ErrForm, At: s.of.At}
		}
	}
	return api.Fault{}
}

// formed says whether a lens has what its kind asks for, whatever its Kids are.
func (l *Lens) formed() bool {
	switch l.Kind {
	case Id, Copy:
		return true
	case Const:
		return len(l.Values) == 2 && scalar(l.Values[0]) && Literal(l.Values[1])
	case Compose:
		return len(l.Kids) >= 1
	case Union:
		return len(l.Kids) >= 2
	case Map, Items, Keyed:
		return len(l.Kids) == 1
	case On:
		return some(l.Keys) && keys(l.Keys) && len(l.Kids) == len(l.Keys)
	case Project:
		return l.parts()
	case Rename:
		if !keys(l.Keys) || !keys(l.Words) {
			return false
		}
		fallthrough
	case Translate:
		return some(l.Keys) && len(l.Words) == len(l.Keys) && apart(l.Words)
	case Sink:
		if !some(l.Keys) || !keys(l.Keys) {
			return false
		}
		fallthrough
	case Hoist, Plunge, Lift:
		return key(l.Name)
	case Fill:
		return key(l.Name) && len(l.Values) == 1 && scalar(l.Values[0])
	case Filter:
		return some(l.Words)
	case Use:
		return char.Name(l.Name)
	}
	return false
}

// parts says whether a Project has what it asks for.
func (l *Lens) parts() bool {
	kept := func(k string) bool {
		_, ok := slices.BinarySearch(l.Keys, k)
		return ok
	}
	return keys(l.Keys) && keys(l.Drops) && rise(l.Keys) && rise(l.Drops) && !slices.ContainsFunc(l.Drops, kept) &&
		len(l.Values) == len(l.Drops) && !slices.ContainsFunc(l.Values, strange)
}

// scalar says whether a value is a scalar literal.
func scalar(v value.Value) bool { return v.Kind == value.Scalar && Literal(v) }

// strange says whether a value is no literal.
func strange(v value.Value) bool { return !Literal(v) }

// key says whether a text is a key.
func key(s string) bool { return len(s) <= api.MaxScalar && resolve.Valid(s) }

// keys says whether texts are keys.
func keys(l []string) bool {
	return !slices.ContainsFunc(l, func(s string) bool { return !key(s) })
}

// rise says whether texts rise.
func rise(l []string) bool {
	for i := range l {
		if i > 0 && l[i] <= l[i-1] {
			return false
		}
	}
	return true
}

// some says whether there are texts, and they rise.
func some(l []string) bool { return len(l) > 0 && rise(l) }

// apart says whether no two texts are alike.
func apart(l []string) bool { return rise(slices.Sorted(slices.Values(l))) }
