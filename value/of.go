package value

import (
	"slices"
	"strings"

	"stanhope/typ"
)

// place is a value, and the type that it is to be of.
type place struct {
	of *typ.Type
	at *Value
}

// Of says whether a value is of a type.
func Of(d typ.Defs, t typ.Type, v Value) bool {
	todo := []place{{&t, &v}}
	for len(todo) > 0 {
		last := len(todo) - 1
		next := todo[last]
		todo = todo[:last]
		r := narrow(d, next.of, next.at.Head())
		kids := next.at.kids()
		if !next.at.is(&r) || again(&r, kids) >= 0 {
			return false
		}
		for i := range kids {
			todo = append(todo, place{next.at.below(&r, i), &kids[i]})
		}
	}
	return true
}

// narrow is what a type comes to where something with that head stands: it is
// resolved, and, as long as that is a Union, it is the Item that has the head.
func narrow(d typ.Defs, t *typ.Type, head string) typ.Type {
	for t != nil {
		r, ok := typ.Resolve(d, *t)
		if !ok || r.Kind != typ.Union {
			return r
		}
		t = item(d, r.Items, head)
	}
	return typ.Type{}
}

// item is the one of a Union's Items that has a head; nil, if none has it.
func item(d typ.Defs, items []typ.Type, head string) *typ.Type {
	for i := range items {
		heads, _ := typ.Heads(d, items[i])
		if _, ok := slices.BinarySearch(heads, head); ok {
			return &items[i]
		}
	}
	return nil
}

// is says whether a value is of a type that comes of narrow, what is below it left aside.
func (v Value) is(t *typ.Type) bool {
	switch t.Kind {
	case typ.Enum:
		if _, ok := slices.BinarySearch(t.Words, v.Text); !ok {
			return false
		}
		fallthrough
	case typ.Scalar:
		return v.Kind == Scalar && v.Tag == t.Tag
	case typ.Record:
		return v.Kind == Map && v.Tag == t.Tag && v.fills(t)
	case typ.List, typ.Keyed:
		return v.Kind == Seq && v.Tag == t.Tag
	case typ.Dag, typ.Any:
		return v.Kind == Leaf
	}
	return false
}

// fills says whether a mapping has the keys that a Record asks for, and only those that it has a type for.
func (v Value) fills(t *typ.Type) bool {
	for _, f := range t.Fields {
		if _, ok := slices.BinarySearch(v.Keys, f.Key); !ok && !f.Optional {
			return false
		}
	}
	return !slices.ContainsFunc(v.Keys, func(k string) bool { return behind(t, k) == nil })
}

// behind is the type of what stands behind a key of a Record; nil, if it has none for it.
func behind(t *typ.Type, key string) *typ.Type {
	i, ok := slices.BinarySearchFunc(t.Fields, key, func(f typ.Field, k string) int { return strings.Compare(f.Key, k) })
	if ok {
		return &t.Fields[i].Type
	}
	return first(t.Items)
}

// below is the type of a value's kid with that number, if the value is of the type; nil, if there is none.
func (v Value) below(t *typ.Type, kid int) *typ.Type {
	if t.Kind != typ.Record {
		return first(t.Items)
	}
	if kid >= len(v.Keys) {
		return nil
	}
	return behind(t, v.Keys[kid])
}

// first is the first one of types; nil, if there is none.
func first(l []typ.Type) *typ.Type {
	if len(l) == 0 {
		return nil
	}
	return &l[0]
}

// again is the number of the first of a Keyed's items whose key has a Text that an
// item's ahead has; -1, if there is none, or the type is no Keyed.
func again(t *typ.Type, items []Value) int {
	if t.Kind != typ.Keyed {
		return -1
	}
	met := make(map[string]struct{}, len(items))
	for i, item := range items {
		k, _ := item.Get(t.Name)
		if _, ok := met[k.Text]; ok {
			return i
		}
		met[k.Text] = struct{}{}
	}
	return -1
}
