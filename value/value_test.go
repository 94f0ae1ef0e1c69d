package value_test

import (
	"math"
	"slices"
	"strings"
	"testing"

	"stanhope/carve"
	"stanhope/value"
)

// of is the value of a text.
var of = carve.Value

// a is so many bytes.
func a(n int) string { return strings.Repeat("a", n) }

// mapping is a mapping of some keys, as they are, each with an x behind it.
func mapping(keys ...string) value.Value {
	v := carve.Map("")
	v.Keys = keys
	for range keys {
		v.Kids = append(v.Kids, carve.Str("x"))
	}
	return v
}

// P16.3: values that may be.
func TestMay(t *testing.T) {
	l := []value.Value{
		of("x"), of("~"), of("true"), of("-12"), of("!a x"), of("''"), of(`"\x85\n"`),
		carve.Str(a(1024)), carve.Scalar("!a", a(1024)), carve.Scalar("!"+a(32), ""), carve.Scalar("str", "null"),
		of("[]"), of("!s []"), of("[x, [y, {}]]"), of("{}"), of("!m {a: x}"), of("{a: {b: []}}"),
		mapping("", "A", "a", "aa", "b", "é"), mapping(a(1024)), mapping("\n", " "),
		mapping(a(1023), a(1024)), mapping("a b", "a:"), mapping("\x00", "\x7f"),
		of("!leaf 0"), of("[!leaf 3, !leaf 3]"), of("{a: !leaf 4095}"),
	}
	for _, v := range l {
		for _, x := range []value.Value{v, carve.Noisy(v), carve.Seq(carve.Str("y"), v), carve.Keyed("k", v)} {
			if !x.May() {
				t.Errorf("%.300v may not be", x)
			}
		}
	}
}

// oddly are values each of which may not be, for itself.
func oddly() []value.Value {
	uneven, lacks := mapping("a", "b"), mapping("a")
	uneven.Kids = uneven.Kids[:1]
	lacks.Keys = nil
	return []value.Value{
		{}, {Tag: "str"}, {Kind: -1, Tag: "str"}, {Kind: 5, Tag: "str"}, {Kind: math.MinInt}, {Kind: math.MaxInt},
		{Kind: value.Scalar}, {Kind: value.Seq}, {Kind: value.Map},
		carve.Scalar("null", "x"), carve.Scalar("null", "null"), carve.Scalar("null", "~"),
		carve.Scalar("bool", "True"), carve.Scalar("bool", ""), carve.Scalar("int", "01"), carve.Scalar("int", "-0"), carve.Scalar("int", "1234567890123456789"),
		carve.Scalar("seq", "x"), carve.Scalar("map", ""), carve.Scalar("foo", "x"), carve.Scalar("!", "x"), carve.Scalar("!a.b", "x"), carve.Scalar("!"+a(33), "x"),
		carve.Str("\xff"), carve.Str("a\xc3"), carve.Str("\xed\xa0\x80"), carve.Str(a(1025)), carve.Scalar("!a", a(1025)),
		carve.Tagged("map", carve.Seq()), carve.Tagged("str", carve.Seq()), carve.Tagged("", carve.Seq()), carve.Tagged("!", carve.Seq()), carve.Tagged("Seq", carve.Seq()),
		carve.Tagged("seq", carve.Map("")), carve.Tagged("str", carve.Map("")), carve.Tagged("", carve.Map("")), carve.Tagged("!a b", carve.Map("")),
		mapping("b", "a"), mapping("a", "a"), mapping("a", "b", "b"), mapping("a", "c", "b"), mapping("", ""), mapping("a", "A"), mapping("b", "aa"),
		mapping("\xff"), mapping("a", "b\xc3"), mapping(a(1025)), mapping("A", a(1025)),
		uneven, lacks, carve.Map("a"),
	}
}

// P16.3: values that may not be, wherever that stands.
func TestMayNot(t *testing.T) {
	for _, v := range oddly() {
		l := []value.Value{
			v, carve.Noisy(v), carve.Seq(v), carve.Seq(carve.Str("x"), carve.Leaf(0), v, carve.Str("y")), carve.Map("a b", v, carve.Str("x")),
			carve.Map("a b", carve.Str("x"), carve.Seq(carve.Seq(), carve.Seq(v))),
		}
		for _, x := range l {
			if x.May() {
				t.Errorf("%.300v may be", x)
			}
		}
	}
}

// P16.3: Size, Leaves and Head.
func TestTold(t *testing.T) {
	cases := []struct {
		text   string
		size   int
		leaves []int
		head   string
	}{
		{"x", 1, nil, ".str"},
		{"~", 1, nil, ".null"},
		{"!a x", 1, nil, ".!a"},
		{"!leaf 0", 1, []int{0}, ""},
		{"!leaf 7", 1, []int{7}, ""},
		{"[]", 1, nil, "[seq"},
		{"!s []", 1, nil, "[!s"},
		{"{}", 1, nil, "{map"},
		{"!m {a: 1}", 2, nil, "{!m"},
		{"[x, y, x]", 4, nil, "[seq"},
		{"[!leaf 2, !leaf 1, !leaf 2]", 4, []int{2, 1, 2}, "[seq"},
		{"{b: !leaf 1, a: !leaf 2}", 3, []int{2, 1}, "{map"},
		{"{a: [!leaf 5, x, [!leaf 4]], b: {c: !leaf 3, d: {}}, c: !leaf 4}", 10, []int{5, 4, 3, 4}, "{map"},
		{"[[[!leaf 3], !leaf 2], !leaf 1]", 6, []int{3, 2, 1}, "[seq"},
	}
	for _, c := range cases {
		for _, v := range []value.Value{of(c.text), carve.Noisy(of(c.text))} {
			if v.Size() != c.size || !slices.Equal(v.Leaves(), c.leaves) || v.Head() != c.head {
				t.Errorf("%s: %d, %v, %q", c.text, v.Size(), v.Leaves(), v.Head())
			}
		}
	}
	for _, n := range []int{-1, math.MinInt, math.MaxInt} {
		if l := carve.Seq(carve.Leaf(n)).Leaves(); !slices.Equal(l, []int{n}) {
			t.Error(l)
		}
	}
}

// P16.3: what stands behind a key.
func TestGet(t *testing.T) {
	v := of("{'': e, a: [x], b: !leaf 3, c: {d: y}, d: ~}")
	for _, c := range []struct{ key, text string }{{"", "e"}, {"a", "[x]"}, {"b", "!leaf 3"}, {"c", "{d: y}"}, {"d", "~"}} {
		if x, ok := v.Get(c.key); !ok || !carve.Equal(x, of(c.text)) {
			t.Errorf("%s: %v, %v", c.key, x, ok)
		}
		x, ok := carve.Noisy(v).Get(c.key)
		if !ok || !value.Same(x, of(c.text)) {
			t.Errorf("%s: %v, %v", c.key, x, ok)
		}
	}
	for _, key := range []string{"A", "aa", "e", "x", "noise", a(2000), "\xff"} {
		if x, ok := v.Get(key); ok || !carve.Equal(x, value.Value{}) {
			t.Errorf("%s: %v, %v", key, x, ok)
		}
	}
	for _, s := range []string{"a", "!leaf 0", "[]", "[a, x, y]", "[{a: x}]", "{}", "{b: {a: x}}"} {
		for _, v := range []value.Value{of(s), carve.Noisy(of(s))} {
			if x, ok := v.Get("a"); ok || !carve.Equal(x, value.Value{}) {
				t.Errorf("%s: %v, %v", s, x, ok)
			}
		}
	}
}

// apart are texts of values no two of which are alike.
var apart = []string{
	"x", "y", "''", "'1'", "1", "-1", "'true'", "true", "false", "~", "'null'", "!a x", "!b x", "!a ''",
	"!leaf 0", "!leaf 1", "[]", "!a []", "{}", "!a {}", "[x]", "[y]", "[1]", "[!leaf 0]", "[!leaf 1]", "[x, x]", "[x, y]", "[y, x]", "[[x], x]", "[x, [x]]", "[[x, x]]", "[[], x]", "!a [x]", "!b [x]",
	"{a: x}", "{b: x}", "{a: y}", "{'': x}", "{a: !leaf 0}", "{a: !leaf 1}", "{a: x, b: x}", "{a: x, b: y}", "{a: y, b: x}", "{a: x, c: x}", "{a: {b: x}}", "{a: [x]}", "[{a: x}]", "!a {a: x}", "!b {a: x}", "{a: {}, b: {c: x}}", "{a: {c: x}, b: {}}",
}

// P16.3: values are the same just if they are alike, with whatever plays no part.
func TestSame(t *testing.T) {
	for i, s := range apart {
		for j, u := range apart {
			v, w := of(s), of(u)
			for _, x := range []value.Value{w, carve.Noisy(w)} {
				if value.Same(v, x) != (i == j) || value.Same(x, v) != (i == j) {
					t.Errorf("%s and %s: same %v", s, u, i != j)
				}
				if value.Same(carve.Seq(carve.Str("x"), v), carve.Seq(carve.Str("x"), x)) != (i == j) {
					t.Errorf("%s and %s, below: same %v", s, u, i != j)
				}
			}
		}
	}
}

// R1, R6: of values that may not be there is an end.
func TestOdd(t *testing.T) {
	for _, v := range append(oddly(), carve.Leaf(-1)) {
		for _, x := range []value.Value{v, carve.Noisy(v), carve.Seq(v, v)} {
			x.Head()
			x.Get("a")
			x.Leaves()
			if x.Size() < 1 {
				t.Errorf("%v: %d", x, x.Size())
			}
			for _, o := range oddly() {
				value.Same(x, o)
				value.Same(o, x)
			}
		}
	}
}
