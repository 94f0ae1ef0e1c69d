package align

import (
	"slices"
	"strings"

	"stanhope/merge"
	"stanhope/typ"
	"stanhope/value"
)

// place is a place of both values, and its type.
type place struct {
	of   typ.Type
	v, w *value.Value
}

// Pairs are the pairs of leaves whose places belong together. Since nothing bounds how deep
// a value is, what is still to do stands in a list, and no calls stand within one another.
func Pairs(d typ.Defs, t typ.Type, v, w value.Value) [][2]int {
	var l [][2]int
	met := make(map[[2]int]struct{})
	todo := []place{{t, &v, &w}}
	for len(todo) > 0 {
		last := len(todo) - 1
		next := todo[last]
		todo = append(todo[:last], next.below(d)...)
		slices.Reverse(todo[last:])
		pair := [2]int{next.v.Node, next.w.Node}
		if _, again := met[pair]; again || !next.both(value.Leaf) {
			continue
		}
		met[pair] = struct{}{}
		l = append(l, pair)
	}
	return l
}

// both says whether both values are of a kind.
func (p place) both(k value.Kind) bool { return p.v.Kind == k && p.w.Kind == k }

// below are the places right below one that belong together, in order.
func (p place) below(d typ.Defs) []place {
	switch {
	case p.both(value.Map):
		t := narrow(d, p.of, p.w.Head())
		return p.parts(p.entry, func(i int) typ.Type { return behind(t, p.w.Keys[i]) })
	case p.both(value.Seq):
		t := narrow(d, p.of, p.w.Head())
		return p.parts(p.item(t), func(int) typ.Type { return first(t.Items) })
	}
	return nil
}

// parts are the places of w's Kids. old tells by the number of one that of the Kid of v that
// belongs to it, or -1; of tells its type.
func (p place) parts(old func(i int) int, of func(i int) typ.Type) []place {
	var l []place
	for i := range p.w.Kids {
		if n := old(i); n >= 0 && n < len(p.v.Kids) {
			l = append(l, place{of(i), &p.v.Kids[n], &p.w.Kids[i]})
		}
	}
	return l
}

// entry is the number of v's entry that has the key of one of w's; -1, if there is none.
func (p place) entry(i int) int {
	if i >= len(p.w.Keys) {
		return -1
	}
	n, ok := slices.BinarySearch(p.v.Keys, p.w.Keys[i])
	if !ok {
		return -1
	}
	return n
}

// item tells by the number of one of w's items that of v's; -1, if there is none.
func (p place) item(t typ.Type) func(i int) int {
	switch t.Kind {
	case typ.List:
		return func(i int) int { return i }
	case typ.Keyed:
		l := merge.Pair(p.v.Kids, p.w.Kids, t.Name)
		return func(i int) int { return l[i] }
	}
	return func(int) int { return -1 }
}

// narrow is what a type comes to where something with that head stands: it is resolved, and,
// as long as that is a Union, it is the Item that has the head. That comes to an end, since
// what has heads doesn't lead back to itself.
func narrow(d typ.Defs, t typ.Type, head string) typ.Type {
	has := func(t typ.Type) bool {
		heads, _ := typ.Heads(d, t)
		return slices.Contains(heads, head)
	}
	for {
		r, _ := typ.Resolve(d, t)
		if r.Kind != typ.Union {
			return r
		}
		i := slices.IndexFunc(r.Items, has)
		if i < 0 {
			return typ.Type{}
		}
		t = r.Items[i]
	}
}

// behind is the type of what stands behind a key of a Record; one of no Kind, if it has none for it.
func behind(t typ.Type, key string) typ.Type {
	i, ok := slices.BinarySearchFunc(t.Fields, key, func(f typ.Field, k string) int { return strings.Compare(f.Key, k) })
	if ok {
		return t.Fields[i].Type
	}
	return first(t.Items)
}

// first is the first one of types; one of no Kind, if there is none.
func first(l []typ.Type) typ.Type {
	if len(l) == 0 {
		return typ.Type{}
	}
	return l[0]
}
