package value_test

import (
	"math"
	"slices"
	"strings"
	"testing"

	"stanhope/carve"
	"stanhope/value"
)

// of is the value of a text.
var of = carve.Value

// a is so many bytes.
func a(n int) string { return strings.Repeat("a", n) }

// mapping is a mapping of some keys, as they are, each with an x behind it.
var mapping = carve.Mapping

// oddly are values each of which may not be, for itself.
var oddly = carve.Odd

// P16.3: values that may be.
func TestMay(t *testing.T) {
	l := []value.Value{
		of("x"), of("~"), of("true"), of("-12"), of("!a x"), of("''"), of(`"\x85\n"`),
		carve.Str(a(1024)), carve.Scalar("!a", a(1024)), carve.Scalar("!"+a(32), ""), carve.Scalar("str", "null"),
		of("[]"), of("!s []"), of("[x, [y, {}]]"), of("{}"), of("!m {a: x}"), of("{a: {b: []}}"),
		mapping("", "A", "a", "aa", "b", "é"), mapping(a(1024)), mapping("\n", " "),
		mapping(a(1023), a(1024)), mapping("a b", "a:"), mapping("\x00", "\x7f"),
		of("!leaf 0"), of("[!leaf 3, !leaf 3]"), of("{a: !leaf 4095}"),
	}
	for _, v := range l {
		for _, x := range []value.Value{v, carve.Noisy(v), carve.Seq(carve.Str("y"), v), carve.Keyed("k", v)} {
			if !x.May() {
				t.Errorf("%.300v may not be", x)
			}
		}
	}
}

// P16.3: values that may not be, wherever that stands.
func TestMayNot(t *testing.T) {
	for _, v := range oddly() {
		l := []value.Value{
			v, carve.Noisy(v), carve.Seq(v), carve.Seq(carve.Str("x"), carve.Leaf(0), v, carve.Str("y")), carve.Map("a b", v, carve.Str("x")),
			carve.Map("a b", carve.Str("x"), carve.Seq(carve.Seq(), carve.Seq(v))),
		}
		for _, x := range l {
			if x.May() {
				t.Errorf("%.300v may be", x)
			}
		}
	}
}

// P16.3: Size, Leaves and Head.
func TestTold(t *testing.T) {
	cases := []struct {
		text   string
		size   int
		leaves []int
		head   string
	}{
		{"x", 1, nil, ".str"},
		{"~", 1, nil, ".null"},
		{"!a x", 1, nil, ".!a"},
		{"!leaf 0", 1, []int{0}, ""},
		{"!leaf 7", 1, []int{7}, ""},
		{"[]", 1, nil, "[seq"},
		{"!s []", 1, nil, "[!s"},
		{"{}", 1, nil, "{map"},
		{"!m {a: 1}", 2, nil, "{!m"},
		{"[x, y, x]", 4, nil, "[seq"},
		{"[!leaf 2, !leaf 1, !leaf 2]", 4, []int{2, 1, 2}, "[seq"},
		{"{b: !leaf 1, a: !leaf 2}", 3, []int{2, 1}, "{map"},
		{"{a: [!leaf 5, x, [!leaf 4]], b: {c: !leaf 3, d: {}}, c: !leaf 4}", 10, []int{5, 4, 3, 4}, "{map"},
		{"[[[!leaf 3], !leaf 2], !leaf 1]", 6, []int{3, 2, 1}, "[seq"},
	}
	for _, c := range cases {
		for _, v := range []value.Value{of(c.text), carve.Noisy(of(c.text))} {
			if v.Size() != c.size || !slices.Equal(v.Leaves(), c.leaves) || v.Head() != c.head {
				t.Errorf("%s: %d, %v, %q", c.text, v.Size(), v.Leaves(), v.Head())
			}
		}
	}
	for _, n := range []int{-1, math.MinInt, math.MaxInt} {
		if l := carve.Seq(carve.Leaf(n)).Leaves(); !slices.Equal(l, []int{n}) {
			t.Error(l)
		}
	}
}

// P16.3: what stands behind a key.
func TestGet(t *testing.T) {
	v := of("{'': e, a: [x], b: !leaf 3, c: {d: y}, d: ~}")
	for _, c := range []struct{ key, text string }{{"", "e"}, {"a", "[x]"}, {"b", "!leaf 3"}, {"c", "{d: y}"}, {"d", "~"}} {
		if x, ok := v.Get(c.key); !ok || !carve.Equal(x, of(c.text)) {
			t.Errorf("%s: %v, %v", c.key, x, ok)
		}
		x, ok := carve.Noisy(v).Get(c.key)
		if !ok || !value.Same(x, of(c.text)) {
			t.Errorf("%s: %v, %v", c.key, x, ok)
		}
	}
	for _, key := range []string{"A", "aa", "e", "x", "noise", a(2000), "\xff"} {
		if x, ok := v.Get(key); ok || !carve.Equal(x, value.Value{}) {
			t.Errorf("%s: %v, %v", key, x, ok)
		}
	}
	for _, s := range []string{"a", "!leaf 0", "[]", "[a, x, y]", "[{a: x}]", "{}", "{b: {a: x}}"} {
		for _, v := range []value.Value{of(s), carve.Noisy(of(s))} {
			if x, ok := v.Get("a"); ok || !carve.Equal(x, value.Value{}) {
				t.Errorf("%s: %v, %v", s, x, ok)
			}
		}
	}
}

// apart are texts of values no two of which are alike.
var apart = []string{
	"x", "y", "''", "'1'", "1", "-1", "'true'", "true", "false", "~", "'null'", "!a x", "!b x", "!a ''",
	"!leaf 0", "!leaf 1", "[]", "!a []", "{}", "!a {}", "[x]", "[y]", "[1]", "[!leaf 0]", "[!leaf 1]", "[x, x]", "[x, y]", "[y, x]", "[[x], x]", "[x, [x]]", "[[x, x]]", "[[], x]", "!a [x]", "!b [x]",
	"{a: x}", "{b: x}", "{a: y}", "{'': x}", "{a: !leaf 0}", "{a: !leaf 1}", "{a: x, b: x}", "{a: x, b: y}", "{a: y, b: x}", "{a: x, c: x}", "{a: {b: x}}", "{a: [x]}", "[{a: x}]", "!a {a: x}", "!b {a: x}", "{a: {}, b: {c: x}}", "{a: {c: x}, b: {}}",
}

// P16.3: values are the same just if they are alike, with whatever plays no part.
func TestSame(t *testing.T) {
	for i, s := range apart {
		for j, u := range apart {
			v, w := of(s), of(u)
			for _, x := range []value.Value{w, carve.Noisy(w)} {
				if value.Same(v, x) != (i == j) || value.Same(x, v) != (i == j) {
					t.Errorf("%s and %s: same %v", s, u, i != j)
				}
				if value.Same(carve.Seq(carve.Str("x"), v), carve.Seq(carve.Str("x"), x)) != (i == j) {
					t.Errorf("%s and %s, below: same %v", s, u, i != j)
				}
			}
		}
	}
}

// R1, R6: of values that may not be there is an end.
func TestOdd(t *testing.T) {
	for _, v := range append(oddly(), carve.Leaf(-1)) {
		for _, x := range []value.Value{v, carve.Noisy(v), carve.Seq(v, v)} {
			x.Head()
			x.Get("a")
			x.Leaves()
			if x.Size() < 1 {
				t.Errorf("%v: %d", x, x.Size())
			}
			for _, o := range oddly() {
				value.Same(x, o)
				value.Same(o, x)
			}
		}
	}
}
