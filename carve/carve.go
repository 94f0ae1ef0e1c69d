// Package carve makes the values of which the layers' tests ask everything.
package carve

import (
	"maps"
	"slices"
	"strconv"
	"strings"

	"stanhope/graph"
	"stanhope/load"
	"stanhope/value"
)

// leaf is the tag of a scalar that stands for a leaf.
const leaf = "!leaf"

// Value is what a text's only document looks like, as a tree: a scalar of the tag !leaf is the leaf of its number.
func Value(s string) value.Value {
	d, f := load.One(s)
	if f.Bad() {
		panic("carve: " + s + ": " + f.Word() + " at " + strconv.Itoa(f.At))
	}
	return from(d.Graph, d.Root)
}

// from is the value of what is reached from a node, which has no cycle.
func from(g graph.Graph, n int) value.Value {
	x := g.Nodes[n]
	if x.Tag == leaf {
		return number(x.Text)
	}
	v := value.Value{Kind: value.Kind(x.Kind), Tag: x.Tag, Text: x.Text, Keys: slices.Sorted(slices.Values(x.Keys))}
	for _, k := range g.Edges(n) {
		v.Kids = append(v.Kids, from(g, k))
	}
	return v
}

// number is the leaf of a number in digits.
func number(s string) value.Value {
	n, err := strconv.Atoi(s)
	if err != nil {
		panic("carve: a leaf's number: " + s)
	}
	return Leaf(n)
}

// Leaf is a leaf.
func Leaf(n int) value.Value { return value.Value{Kind: value.Leaf, Node: n} }

// Scalar is a scalar of a tag.
func Scalar(tag, s string) value.Value {
	return value.Value{Kind: value.Scalar, Tag: tag, Text: s}
}

// Str is a scalar.
func Str(s string) value.Value { return Scalar("str", s) }

// Seq is a sequence.
func Seq(kids ...value.Value) value.Value {
	return value.Value{Kind: value.Seq, Tag: "seq", Kids: kids}
}

// Map is a mapping, of keys with blanks between them, in whatever order, and what stands behind them.
func Map(keys string, kids ...value.Value) value.Value {
	return value.Value{Kind: value.Map, Tag: "map", Keys: strings.Fields(keys), Kids: kids}
}

// Keyed is a mapping of a key, whatever it is.
func Keyed(key string, kid value.Value) value.Value {
	return value.Value{Kind: value.Map, Tag: "map", Keys: []string{key}, Kids: []value.Value{kid}}
}

// Entries are what stands behind the keys of a mapping.
func Entries(v value.Value) map[string]value.Value {
	m := make(map[string]value.Value)
	for i, k := range v.Keys {
		m[k] = v.Kids[i]
	}
	return m
}

// Laid is the mapping of a tag of what stands behind keys.
func Laid(tag string, m map[string]value.Value) value.Value {
	v := value.Value{Kind: value.Map, Tag: tag, Keys: slices.Sorted(maps.Keys(m))}
	for _, k := range v.Keys {
		v.Kids = append(v.Kids, m[k])
	}
	return v
}

// Tagged is a value with a tag.
func Tagged(tag string, v value.Value) value.Value {
	v.Tag = tag
	return v
}

// Nested is a value within itself, so many times.
func Nested(n int, v value.Value, around func(value.Value) value.Value) value.Value {
	for range n {
		v = around(v)
	}
	return v
}

// Equal says whether two values are alike, as they stand, with what plays no part; nil and empty lists are one.
func Equal(a, b value.Value) bool {
	return a.Kind == b.Kind && a.Tag == b.Tag && a.Text == b.Text && a.Node == b.Node &&
		slices.Equal(a.Keys, b.Keys) && slices.EqualFunc(a.Kids, b.Kids, Equal)
}

// Noisy is a value with something in all that plays no part.
func Noisy(v value.Value) value.Value {
	n := value.Value{Kind: v.Kind, Tag: "!noise", Text: "noise", Keys: []string{"noise", "a", "a"}, Node: 1 << 40}
	n.Kids = []value.Value{Leaf(-7), Scalar("noise", "\xff"), {}}
	switch v.Kind {
	case value.Scalar:
		n.Tag, n.Text = v.Tag, v.Text
	case value.Seq:
		n.Tag, n.Kids = v.Tag, noisy(v.Kids)
	case value.Map:
		n.Tag, n.Keys, n.Kids = v.Tag, v.Keys, noisy(v.Kids)
	case value.Leaf:
		n.Node = v.Node
	}
	return n
}

// noisy are values, each of which is noisy.
func noisy(l []value.Value) []value.Value {
	var n []value.Value
	for _, v := range l {
		n = append(n, Noisy(v))
	}
	return n
}

// Moved is a value whose leaves have the numbers to which theirs lead.
func Moved(v value.Value, to func(int) int) value.Value {
	if v.Kind == value.Leaf {
		return Leaf(to(v.Node))
	}
	v.Kids = slices.Clone(v.Kids)
	for i, k := range v.Kids {
		v.Kids[i] = Moved(k, to)
	}
	return v
}
