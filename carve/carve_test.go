package carve_test

import (
	"reflect"
	"slices"
	"testing"

	"stanhope/carve"
	"stanhope/value"
)

// str is a scalar.
func str(s string) value.Value { return value.Value{Kind: value.Scalar, Tag: "str", Text: s} }

func TestValue(t *testing.T) {
	cases := []struct {
		text string
		want value.Value
	}{
		{"x", str("x")},
		{"'1'", str("1")},
		{"-1", value.Value{Kind: value.Scalar, Tag: "int", Text: "-1"}},
		{"!a x", value.Value{Kind: value.Scalar, Tag: "!a", Text: "x"}},
		{"~", value.Value{Kind: value.Scalar, Tag: "null"}},
		{"!leaf 7", value.Value{Kind: value.Leaf, Node: 7}},
		{"!leaf -7", value.Value{Kind: value.Leaf, Node: -7}},
		{"[]", value.Value{Kind: value.Seq, Tag: "seq"}},
		{"!s [x, !leaf 1]", value.Value{Kind: value.Seq, Tag: "!s", Kids: []value.Value{str("x"), {Kind: value.Leaf, Node: 1}}}},
		{"{}", value.Value{Kind: value.Map, Tag: "map"}},
		{"{b: &x [y], a: *x, c: z}", value.Value{Kind: value.Map, Tag: "map", Keys: []string{"a", "b", "c"}, Kids: []value.Value{
			{Kind: value.Seq, Tag: "seq", Kids: []value.Value{str("y")}},
			{Kind: value.Seq, Tag: "seq", Kids: []value.Value{str("y")}},
			str("z"),
		}}},
	}
	for _, c := range cases {
		if got := carve.Value(c.text); !reflect.DeepEqual(got, c.want) {
			t.Errorf("%s: %+v, not %+v", c.text, got, c.want)
		}
	}
}

func TestMade(t *testing.T) {
	cases := []struct {
		got  value.Value
		text string
	}{
		{carve.Str("x"), "x"},
		{carve.Scalar("int", "1"), "1"},
		{carve.Leaf(3), "!leaf 3"},
		{carve.Seq(), "[]"},
		{carve.Seq(carve.Str("x"), carve.Leaf(3)), "[x, !leaf 3]"},
		{carve.Map("a b", carve.Str("x"), carve.Str("y")), "{a: x, b: y}"},
		{carve.Keyed("a b", carve.Str("x")), "{a b: x}"},
		{carve.Mapping(), "{}"},
		{carve.Mapping("", "a b"), "{'': x, a b: x}"},
		{carve.Tagged("!t", carve.Seq()), "!t []"},
		{carve.Nested(3, carve.Str("x"), func(v value.Value) value.Value { return carve.Seq(v) }), "[[[x]]]"},
		{carve.Moved(carve.Value("[!leaf 3, {a: !leaf 4, b: 5}]"), func(n int) int { return n * 10 }), "[!leaf 30, {a: !leaf 40, b: 5}]"},
	}
	for _, c := range cases {
		if !carve.Equal(c.got, carve.Value(c.text)) {
			t.Errorf("%+v is no %s", c.got, c.text)
		}
	}
}

// What stands behind keys is laid in order, and taken apart again.
func TestLaid(t *testing.T) {
	m := map[string]value.Value{"b": str("x"), "": carve.Seq(str("y")), "a": str("x")}
	v := carve.Laid("!m", m)
	if !carve.Equal(v, carve.Value("!m {'': [y], a: x, b: x}")) || !reflect.DeepEqual(carve.Entries(v), m) {
		t.Errorf("%+v, %+v", v, carve.Entries(v))
	}
	if v := carve.Laid("map", nil); !carve.Equal(v, carve.Map("")) || len(carve.Entries(v)) != 0 {
		t.Errorf("%+v", v)
	}
}

// wrong says whether a text is none.
func wrong(s string) (wrong bool) {
	defer func() { wrong = recover() != nil }()
	carve.Value(s)
	return false
}

func TestWrong(t *testing.T) {
	for _, s := range []string{"", "[", "- x\n- [y", "*a", "!leaf x", "[!leaf]", "--- a\n--- b\n"} {
		if !wrong(s) {
			t.Errorf("%q is a value: %+v", s, carve.Value(s))
		}
	}
}

func TestEqual(t *testing.T) {
	l := []value.Value{
		{},
		str("x"),
		str("y"),
		{Kind: value.Scalar, Tag: "!a", Text: "x"},
		{Kind: value.Scalar, Tag: "str", Text: "x", Node: 1},
		{Kind: value.Scalar, Tag: "str", Text: "x", Keys: []string{""}},
		{Kind: value.Scalar, Tag: "str", Text: "x", Kids: []value.Value{{}}},
		{Kind: value.Seq, Tag: "str", Text: "x"},
		carve.Seq(str("x")),
		carve.Seq(str("y")),
		carve.Map("a", str("x")),
		carve.Map("b", str("x")),
	}
	for i, a := range l {
		for j, b := range l {
			if carve.Equal(a, b) != (i == j) {
				t.Errorf("%+v and %+v", a, b)
			}
		}
		b := a
		if len(b.Keys) == 0 {
			b.Keys = []string{}
		}
		if len(b.Kids) == 0 {
			b.Kids = []value.Value{}
		}
		if !carve.Equal(a, b) {
			t.Errorf("%+v without elements", a)
		}
	}
}

// What is noisy is alike, and has something in each field.
func TestNoisy(t *testing.T) {
	for _, s := range []string{"x", "!leaf 3", "[]", "{a: [x, !leaf 2], b: {c: ~}}"} {
		v := carve.Value(s)
		n := carve.Noisy(v)
		if !value.Same(v, n) || carve.Equal(v, n) {
			t.Errorf("%s: %+v", s, n)
		}
	}
	if n := carve.Noisy(str("x")); n.Tag != "str" || n.Text != "x" || n.Node == 0 || len(n.Keys) == 0 || len(n.Kids) == 0 {
		t.Errorf("%+v", n)
	}
	if n := carve.Noisy(carve.Leaf(3)); n.Tag == "" || n.Text == "" || n.Node != 3 || len(n.Keys) == 0 || len(n.Kids) == 0 {
		t.Errorf("%+v", n)
	}
}

func TestRoom(t *testing.T) {
	v := carve.Value("{a: [x, !leaf 2], b: {c: ~}}")
	r := carve.Roomy(v)
	if !carve.Equal(r, v) || cap(r.Keys) <= len(r.Keys) || cap(r.Kids[0].Kids) <= len(r.Kids[0].Kids) {
		t.Errorf("%+v", r)
	}
	was := carve.Whole(r)
	if !carve.Equal(was, carve.Whole(r)) {
		t.Errorf("%+v", was)
	}
	_ = append(r.Kids[0].Kids, str("written"))
	if carve.Equal(was, carve.Whole(r)) {
		t.Errorf("%+v: what is written behind the end isn't seen", was)
	}
}

func TestOdd(t *testing.T) {
	for i, v := range carve.Odd() {
		if v.May() {
			t.Errorf("%d may be: %+v", i, v)
		}
	}
}

// What is changed is another value, and leaves the value as it was.
func TestChanged(t *testing.T) {
	const text = "{a: [x, !leaf 2], b: {c: ~}}"
	v := carve.Roomy(carve.Value(text))
	was := carve.Whole(v)
	l := carve.Changed(v)
	others := 0
	for _, c := range l {
		if !carve.Equal(c, v) {
			others++
		}
	}
	if !carve.Equal(carve.Whole(v), was) || others < 30 {
		t.Errorf("%d of %d are others: %+v", others, len(l), v)
	}
	for _, s := range []string{"{a: [x], b: {c: ~}}", "{a: [!leaf 2, !leaf 2], b: {c: ~}}", "{a: [x, !leaf 2], b: {c: !a ''}}", "{b: {c: ~}}", "{a: !a [x, !leaf 2], b: {c: ~}}", "[]"} {
		if !slices.ContainsFunc(l, func(c value.Value) bool { return carve.Equal(c, carve.Value(s)) }) {
			t.Errorf("%s isn't among them", s)
		}
	}
}
