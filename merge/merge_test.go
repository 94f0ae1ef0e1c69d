package merge_test

import (
	"slices"
	"strconv"
	"strings"
	"testing"

	"stanhope/carve"
	"stanhope/merge"
	"stanhope/value"
)

// of is the value of a text.
var of = carve.Value

// list are numbers with blanks between them.
func list(s string) []int {
	var l []int
	for _, w := range strings.Fields(s) {
		n, err := strconv.Atoi(w)
		if err != nil {
			panic(err)
		}
		l = append(l, n)
	}
	return l
}

// even says whether a number is even.
func even(n int) bool { return n%2 == 0 }

// The chapter's example 1.
func TestExample(t *testing.T) {
	if l := merge.Splice([]int{1, 2, 3, 4}, even, []int{6, 8, 10}); !slices.Equal(l, []int{1, 6, 3, 8, 10}) {
		t.Error(l)
	}
}

// P19.1: what is spliced of numbers, of which even ones are kept.
func TestSplice(t *testing.T) {
	for _, c := range []struct{ source, view, want string }{
		{"", "", ""},
		{"", "6", "6"},
		{"", "6 8 10", "6 8 10"},
		// None is kept: all stand ahead of the view.
		{"1", "", "1"},
		{"1", "6", "1 6"},
		{"1 3 5", "6 8", "1 3 5 6 8"},
		// All are.
		{"2", "", ""},
		{"2", "6", "6"},
		{"2 4", "", ""},
		{"2 4", "6", "6"},
		{"2 4", "6 8", "6 8"},
		{"2 4", "6 8 10", "6 8 10"},
		// The first one is, or isn't; so is, or isn't, the last one.
		{"1 2", "6", "1 6"},
		{"2 1", "6", "6 1"},
		{"1 2 3", "6", "1 6 3"},
		{"2 1 4", "6 8", "6 1 8"},
		{"1 3 2 4 5 7", "6 8", "1 3 6 8 5 7"},
		// The view is longer.
		{"1 2 3", "6 8", "1 6 3 8"},
		{"1 2 3 4", "6 8 10", "1 6 3 8 10"},
		{"2 1", "6 8 10", "6 1 8 10"},
		{"1 2 3 5", "6 8 10", "1 6 3 5 8 10"},
		{"2 4 1", "6 8 10", "6 8 1 10"},
		// It is shorter.
		{"1 2 3", "", "1 3"},
		{"1 2 3 4 5", "", "1 3 5"},
		{"1 2 3 4 5", "6", "1 6 3 5"},
		{"2 1 4 3 6 5", "8", "8 1 3 5"},
		{"1 2 3 4 5 6 7", "8 10", "1 8 3 10 5 7"},
		{"1 2 4 3 6 8 5", "10 12", "1 10 12 3 5"},
		// Alike ones stand as often as they are there.
		{"1 2 1 2 1", "2 2 2", "1 2 1 2 1 2"},
		{"1 1 2 2 1 1", "2", "1 1 2 1 1"},
		// What of the view isn't kept stands as all of it does.
		{"1 2 3", "7", "1 7 3"},
		{"1 2 3 4 5", "7 8 9", "1 7 3 8 5 9"},
		{"1 2 3 4 5", "1 2 3 4 5", "1 1 3 2 5 3 4 5"},
	} {
		if l := merge.Splice(list(c.source), even, list(c.view)); !slices.Equal(l, list(c.want)) {
			t.Errorf("%s by %s: %v, not %s", c.source, c.view, l, c.want)
		}
	}
}

// P19.1: keep is asked of each item of the source once, and of no other one.
func TestSpliceAsks(t *testing.T) {
	for _, source := range []string{"", "1", "2", "1 2 3 4", "1 3 5", "2 4 6", "2 2 1 1 2"} {
		for _, view := range []string{"", "10", "9", "10 12", "10 9 12 14 16"} {
			var asked []int
			merge.Splice(list(source), func(n int) bool {
				asked = append(asked, n)
				return even(n)
			}, list(view))
			want := list(source)
			slices.Sort(asked)
			slices.Sort(want)
			if !slices.Equal(asked, want) {
				t.Errorf("%s by %s: asked of %v", source, view, asked)
			}
		}
	}
}

// P19.1: items of whatever types: none is looked at but by keep.
func TestSpliceTypes(t *testing.T) {
	texts := merge.Splice([]string{"a", "B", "", "C"}, func(s string) bool { return s != strings.ToLower(s) }, []string{"X"})
	if !slices.Equal(texts, []string{"a", "X", ""}) {
		t.Error(texts)
	}
	if l := merge.Splice(make([]struct{}, 3), func(struct{}) bool { return false }, make([]struct{}, 4)); len(l) != 7 {
		t.Error(l)
	}
	if l := merge.Splice(make([]struct{}, 3), func(struct{}) bool { return true }, make([]struct{}, 4)); len(l) != 4 {
		t.Error(l)
	}
	lists := merge.Splice([][]int{{1}, nil, {2, 3}}, func(l []int) bool { return len(l) == 1 }, [][]int{{4}, {5, 6}})
	if len(lists) != 4 || !slices.Equal(slices.Concat(lists...), []int{4, 2, 3, 5, 6}) || len(lists[1]) != 0 {
		t.Error(lists)
	}
	one := func() int { return 1 }
	two := func() int { return 2 }
	if l := merge.Splice([]func() int{one, two, nil}, func(f func() int) bool { return f == nil }, []func() int{two}); len(l) != 3 || l[0]() != 1 || l[1]() != 2 || l[2]() != 2 {
		t.Error(l)
	}
	p, q := new(int), new(int)
	if l := merge.Splice([]*int{p, q, p}, func(x *int) bool { return x == q }, []*int{nil}); !slices.Equal(l, []*int{p, nil, p}) {
		t.Error(l)
	}
	if l := merge.Splice([]any{1, "x", 2.5}, func(x any) bool { _, is := x.(string); return is }, []any{nil, 'r'}); !slices.Equal(l, []any{1, nil, 2.5, 'r'}) {
		t.Error(l)
	}
}

// P19.1: values, kept by their heads.
func TestSpliceValues(t *testing.T) {
	source := of("[x, 1, [], y, {a: 2}, !leaf 7, 3]")
	l := merge.Splice(source.Kids, func(v value.Value) bool { return v.Head() == ".int" || v.Head() == "[seq" }, of("[4, [5], 6, [[]]]").Kids)
	if !carve.Equal(carve.Seq(l...), of("[x, 4, [5], y, {a: 2}, !leaf 7, 6, [[]]]")) {
		t.Errorf("%+v", l)
	}
}

// pairs are lists of old items and new ones, and, for each of these, of those the number of the first one that has the same behind a key.
var pairs = []struct{ old, now, key, want string }{
	{"[]", "[]", "k", ""},
	{"[{k: a}]", "[]", "k", ""},
	{"[]", "[{k: a}, {k: b}]", "k", "-1 -1"},
	{"[{k: a, v: 1}, {k: b, v: 2}]", "[{k: b, v: x}, {k: c, v: y}, {k: a}]", "k", "1 -1 0"},
	{"[{k: a}, {k: b}, {k: c}]", "[{k: c}, {k: b}, {k: a}]", "k", "2 1 0"},
	// The first one counts, and as often as it is asked for.
	{"[{k: b}, {k: a, v: 1}, {k: a, v: 2}, {k: b}]", "[{k: a, v: 2}, {k: b}, {k: a}, {k: a}]", "k", "1 0 1 1"},
	// Tags, too, are held against one another.
	{"[{k: 1}, {k: '1'}, {k: !a 1}, {k: true}, {k: 'true'}, {k: ~}, {k: ''}]", "[{k: !a 1}, {k: '1'}, {k: 1}, {k: ''}, {k: ~}, {k: 'true'}, {k: true}, {k: !b 1}, {k: 'null'}, {k: false}]", "k", "2 1 0 6 5 4 3 -1 -1 -1"},
	{"[{k: !a bc}, {k: !ab c}, {k: A}, {k: é}]", "[{k: !ab c}, {k: !a bc}, {k: !abc ''}, {k: a}, {k: 'é'}]", "k", "1 0 -1 -1 3"},
	// There is none: no key, no scalar, no mapping.
	{"[{}, {v: a}, {k: []}, {k: {}}, {k: !leaf 0}, [], [k, a], a, k, !leaf 0, {l: {k: a}}, [{k: a}], {k: a}]",
		"[{}, {v: a}, {k: []}, {k: {}}, {k: !leaf 0}, [], [k, a], a, k, !leaf 0, {l: {k: a}}, [{k: a}], {k: a}, {k: ''}]", "k", "-1 -1 -1 -1 -1 -1 -1 -1 -1 -1 -1 -1 12 -1"},
	// It stands behind that key, whatever stands behind others, and whatever there is else.
	{"[{a: x, b: y}, {a: y, b: x}]", "[{a: y}, {b: y}, {a: y, b: y}, {a: z, b: x, c: [y]}]", "b", "-1 0 0 1"},
	{"[{a: x, b: y}, {a: y, b: x}]", "[{a: y}, {b: y}, {a: y, b: y}, {a: z, b: x, c: [y]}]", "a", "1 -1 1 -1"},
	{"[{a: x, b: y}, {a: y, b: x}]", "[{a: y}, {b: y}]", "c", "-1 -1"},
	{"[!r {k: a}, {k: b}]", "[{k: a}, !s {k: a}, !r {k: b}]", "k", "0 0 1"},
	{"[{k: x}, {'': x}, {'': ''}]", "[{'': x}, {k: x}, {'': ''}, {}]", "", "1 -1 2 -1"},
}

// P19.2: the numbers of old items for new ones, with whatever plays no part.
func TestPair(t *testing.T) {
	for _, c := range pairs {
		old, now := of(c.old), of(c.now)
		for _, o := range []value.Value{old, carve.Noisy(old)} {
			for _, n := range []value.Value{now, carve.Noisy(now)} {
				if l := merge.Pair(o.Kids, n.Kids, c.key); !slices.Equal(l, list(c.want)) {
					t.Errorf("%s and %s by %q: %v, not %s", c.old, c.now, c.key, l, c.want)
				}
			}
		}
	}
}

// P19.2: of values that may not be, too: a scalar is one by its kind, a key one wherever it stands.
func TestPairOdd(t *testing.T) {
	bare := value.Value{Kind: value.Scalar}
	scalars := []value.Value{bare, carve.Str("\xff"), carve.Str("\ufffd"), carve.Scalar("foo", "x"), carve.Scalar("seq", ""), carve.Scalar("", "seq")}
	var items []value.Value
	for _, key := range []string{"k", "\xff", strings.Repeat("k", 2000)} {
		for _, s := range scalars {
			items = append(items, carve.Map("z a", carve.Str("y"), s))
			items[len(items)-1].Keys[1] = key
		}
		l := merge.Pair(items, items, key)
		for i, n := range l {
			want := -1
			if i >= len(items)-len(scalars) {
				want = i
			}
			if n != want {
				t.Errorf("%.10q: %d, not %d", key, n, want)
			}
		}
	}
	lacks := carve.Map("a k", carve.Str("x"))
	for _, v := range append(carve.Odd(), lacks) {
		if l := merge.Pair([]value.Value{v, carve.Keyed("k", v), carve.Keyed("k", bare)}, []value.Value{v, carve.Keyed("k", bare), v}, "k"); len(l) != 3 || l[0] != -1 || l[1] < 1 || l[2] != -1 {
			t.Errorf("%+v: %v", v, l)
		}
	}
}
