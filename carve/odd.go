package carve

import (
	"math"
	"slices"
	"strings"

	"stanhope/value"
)

// Mapping is a mapping of some keys, as they are, each with an x behind it.
func Mapping(keys ...string) value.Value {
	v := Map("")
	v.Keys = keys
	for range keys {
		v.Kids = append(v.Kids, Str("x"))
	}
	return v
}

// Odd are values each of which may not be, for itself.
func Odd() []value.Value {
	uneven, lacks := Mapping("a", "b"), Mapping("a")
	uneven.Kids = uneven.Kids[:1]
	lacks.Keys = nil
	long := strings.Repeat("a", 1025)
	return []value.Value{
		{}, {Tag: "str"}, {Kind: -1, Tag: "str"}, {Kind: 5, Tag: "str"}, {Kind: math.MinInt}, {Kind: math.MaxInt},
		{Kind: value.Scalar}, {Kind: value.Seq}, {Kind: value.Map},
		Scalar("null", "x"), Scalar("null", "null"), Scalar("null", "~"),
		Scalar("bool", "True"), Scalar("bool", ""), Scalar("int", "01"), Scalar("int", "-0"), Scalar("int", "1234567890123456789"),
		Scalar("seq", "x"), Scalar("map", ""), Scalar("foo", "x"), Scalar("!", "x"), Scalar("!a.b", "x"), Scalar("!"+long[:33], "x"),
		Str("\xff"), Str("a\xc3"), Str("\xed\xa0\x80"), Str(long), Scalar("!a", long),
		Tagged("map", Seq()), Tagged("str", Seq()), Tagged("", Seq()), Tagged("!", Seq()), Tagged("Seq", Seq()),
		Tagged("seq", Map("")), Tagged("str", Map("")), Tagged("", Map("")), Tagged("!a b", Map("")),
		Mapping("b", "a"), Mapping("a", "a"), Mapping("a", "b", "b"), Mapping("a", "c", "b"), Mapping("", ""), Mapping("a", "A"), Mapping("b", "aa"),
		Mapping("\xff"), Mapping("a", "b\xc3"), Mapping(long), Mapping("A", long),
		uneven, lacks, Map("a"),
	}
}

// Changed are all values that come of one, if one thing of it is changed.
func Changed(v value.Value) []value.Value {
	l := []value.Value{Leaf(0), Str("x"), Scalar("int", "1"), Seq(), Map("")}
	with := func(change func(*value.Value)) {
		x := v
		x.Keys, x.Kids = slices.Clone(v.Keys), slices.Clone(v.Kids)
		change(&x)
		l = append(l, x)
	}
	if v.Kind != value.Leaf {
		with(func(x *value.Value) { x.Tag = "!a" })
	}
	if v.Kind == value.Scalar {
		with(func(x *value.Value) { x.Text = "y" })
	}
	for i, k := range v.Kids {
		with(func(x *value.Value) { x.Kids[i] = v.Kids[len(v.Kids)-1-i] })
		with(func(x *value.Value) {
			x.Kids = slices.Delete(x.Kids, i, i+1)
			if v.Kind == value.Map {
				x.Keys = slices.Delete(x.Keys, i, i+1)
			}
		})
		if v.Kind == value.Map {
			with(func(x *value.Value) { x.Keys[i] += "\x00" })
		}
		for _, o := range Changed(k) {
			with(func(x *value.Value) { x.Kids[i] = o })
		}
	}
	return l
}
