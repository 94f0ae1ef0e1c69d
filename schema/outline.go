package schema

import (
	"slices"
	"strings"

	"stanhope/char"
	"stanhope/graph"
	"stanhope/plain"
	"stanhope/resolve"
	"stanhope/typ"
)

// outline is a type without the types in it, and the nodes of these: of its fields, as they
// stand, and of its items, which are read behind them.
type outline struct {
	typ.Type
	fields, items []int
}

// outlined is what a node is of itself, and whether it is a type's.
func (r *Reader) outlined(n int) (outline, bool) {
	o := outline{Type: typ.Type{At: plain.At(r.Doc, n)}}
	if x, _ := plain.Node(r.Doc, n); x.Kind == graph.Scalar {
		return o, o.word(x)
	}
	e, ok := plain.Map(r.Doc, n)
	return o, ok && r.mapping(&o, e)
}

// word reads a type that is a scalar.
func (o *outline) word(x graph.Node) bool {
	s := x.Text
	switch {
	case x.Tag == resolve.Null:
		s = resolve.Null
		fallthrough
	case x.Tag == resolve.Str && (resolve.Core(s) || resolve.Own(s)):
		o.Kind, o.Tag = typ.Scalar, s
	case x.Tag != resolve.Str:
		return false
	case s == "dag":
		o.Kind = typ.Dag
	case s == "any":
		o.Kind = typ.Any
	case char.Name(s):
		o.Kind, o.Name = typ.Name, s
	default:
		return false
	}
	return true
}

// mapping reads a type that is a mapping, by its keys.
func (r *Reader) mapping(o *outline, e plain.Entries) bool {
	ok, n := false, -1
	switch o.Kind, n = kind(e); o.Kind {
	case typ.Enum:
		ok = r.enum(o, n)
	case typ.Union:
		o.items, ok = plain.Seq(r.Doc, n)
	case typ.Record:
		ok = r.record(o, e, n) && r.tag(o, e, resolve.Map)
	case typ.Keyed:
		if o.Name, ok = r.text(e.Behind("by")); !ok {
			return false
		}
		fallthrough
	case typ.List:
		o.items = []int{n}
		ok = r.tag(o, e, resolve.Seq)
	}
	return ok
}

// kind is the kind that a mapping's keys tell, and the node behind the one that has its word.
func kind(e plain.Entries) (typ.Kind, int) {
	switch {
	case e.Are([]string{"enum"}):
		return typ.Enum, e.Behind("enum")
	case e.Are([]string{"union"}):
		return typ.Union, e.Behind("union")
	case e.Are([]string{"record"}, "rest", "tag"):
		return typ.Record, e.Behind("record")
	case e.Are([]string{"keyed", "by"}, "tag"):
		return typ.Keyed, e.Behind("keyed")
	case e.Are([]string{"list"}, "tag"):
		return typ.List, e.Behind("list")
	}
	return 0, -1
}

// tag reads the tag of a collection, which is that of all others if none is written.
func (r *Reader) tag(o *outline, e plain.Entries, other string) bool {
	n := e.Behind("tag")
	if n < 0 {
		o.Tag = other
		return true
	}
	s, ok := r.text(n)
	o.Tag = s
	return ok
}

// enum reads a sequence of scalars of one tag.
func (r *Reader) enum(o *outline, n int) bool {
	kids, ok := plain.Seq(r.Doc, n)
	if !ok || len(kids) == 0 {
		return false
	}
	for i, k := range kids {
		x, _ := plain.Node(r.Doc, k)
		if x.Kind != graph.Scalar || i > 0 && x.Tag != o.Tag {
			return false
		}
		o.Tag = x.Tag
		o.Words = append(o.Words, x.Text)
	}
	slices.Sort(o.Words)
	o.Words = slices.Compact(o.Words)
	return true
}

// record reads the keys of a record's fields, and where their types and the rest's stand.
func (r *Reader) record(o *outline, e plain.Entries, n int) bool {
	in, ok := plain.Map(r.Doc, n)
	if !ok {
		return false
	}
	for _, k := range in.Keys {
		key, optional := strings.CutSuffix(k, "?")
		o.Fields = append(o.Fields, typ.Field{Key: key, Optional: optional})
	}
	o.fields = in.Kids
	if rest := e.Behind("rest"); rest >= 0 {
		o.items = []int{rest}
	}
	sorted := slices.Clone(o.Fields)
	slices.SortFunc(sorted, rising)
	return len(slices.CompactFunc(sorted, alike)) == len(o.Fields)
}

// rising holds the keys of two fields against each other.
func rising(a, b typ.Field) int { return strings.Compare(a.Key, b.Key) }

// alike says whether two fields have one key.
func alike(a, b typ.Field) bool { return a.Key == b.Key }
