package program_test

import (
	"reflect"
	"slices"
	"strconv"
	"strings"
	"testing"

	"stanhope/api"
	"stanhope/graph"
	"stanhope/grind"
	"stanhope/lens"
	"stanhope/load"
	"stanhope/program"
	"stanhope/schema"
	"stanhope/sketch"
	"stanhope/value"
)

// doc is a text's only document.
func doc(t *testing.T, s string) load.Doc {
	t.Helper()
	d, f := load.One(s)
	if f.Bad() {
		t.Fatalf("%q: %v at %d", s, f, f.At)
	}
	return d
}

// wrong is a fault, as it is told.
func wrong(e api.Errno, at int) string { return e.Word() + " at " + strconv.Itoa(at) }

// form is an ErrForm, as it is told.
func form(at int) string { return wrong(api.ErrForm, at) }

// many is an ErrMany, as it is told.
func many(at int) string { return wrong(api.ErrMany, at) }

// bare is a lens without places, and with no empty lists.
func bare(l lens.Lens) lens.Lens {
	l.At = 0
	l.Keys, l.Words, l.Drops = tight(l.Keys), tight(l.Words), tight(l.Drops)
	l.Kids, l.Values = tight(l.Kids), tight(l.Values)
	for i := range l.Kids {
		l.Kids[i] = bare(l.Kids[i])
	}
	return l
}

// tight is a list anew; nil, if it is empty.
func tight[T any](l []T) []T { return append([]T(nil), l...) }

// places are the places of a lens and those in it, in order.
func places(l lens.Lens) []int {
	at := []int{l.At}
	for _, k := range l.Kids {
		at = append(at, places(k)...)
	}
	return at
}

// empty says whether a lens is the zero one.
func empty(l lens.Lens) bool { return l.At == 0 && reflect.DeepEqual(bare(l), lens.Lens{}) }

// told is what is told of a node as a lens, where that is wrong; else ok.
func told(r *schema.Reader, n int) string {
	l, f := program.Lens(r, n)
	if f.Bad() && !empty(l) || !f.Bad() && (f.At != 0 || empty(l)) {
		return "something beside a fault, or nothing without one"
	}
	if f.Bad() {
		return wrong(f.Errno, f.At)
	}
	return "ok"
}

// P25.1, R2: what is written of each kind, and nothing else, each lens at its node's place.
func TestLens(t *testing.T) {
	cases := []struct {
		text, want string // as grind reads it, if it is another one; there a list may be in any order
		at         []int
	}{
		{" id", "", []int{1}},
		{"'copy'", "copy", []int{0}},
		{`"\x69d"`, "id", []int{0}},
		{"&x id", "id", []int{0}},
		{"{const: {view: 1, default: []}}", "", []int{0}},
		{"const:\n  default: &x !m {}\n  view: !a ''\n", "{const: {view: !a '', default: !m {}}}", []int{0}},
		{"{const: {view: &x true, default: *x}}", "{const: {view: true, default: true}}", []int{0}},
		{"{const: {view: , default: !l []}}", "{const: {view: ~, default: !l []}}", []int{0}},
		{"{const: {view: [], default: {}}}", "", []int{0}},
		{"{compose: []}", "", []int{0}},
		{"{compose: [id]}", "", []int{0, 11}},
		{"compose:\n  - copy\n  -  id\n  - {use: f}", "{compose: [copy, id, {use: f}]}", []int{0, 13, 23, 30}},
		{"{union: [&x {map: id}, *x]}", "{union: [{map: id}, {map: id}]}", []int{0, 9, 18, 9, 18}},
		{"{union: []}", "", []int{0}},
		{"{project: {keep: [a, b]}}", "", []int{0}},
		{"{project: {keep: [b, a, b, a]}}", "{project: {keep: [a, b]}}", []int{0}},
		{"{project: {default: {d: [], c: x, '': ~}, keep: []}}", "{project: {keep: [], default: {'': ~, c: x, d: []}}}", []int{0}},
		{"{project: {keep: [1, true, '1', 'true'], default: {}}}", "{project: {keep: ['1', 'true']}}", []int{0}},
		{"{project: {keep: [a], default: {a: !m {}}}}", "", []int{0}},
		{"{rename: {b: c, a: 1}}", "{rename: {a: '1', b: c}}", []int{0}},
		{"{rename: {}}", "", []int{0}},
		{"{rename: {b: x, a: x}}", "{rename: {a: x, b: x}}", []int{0}},
		{"{translate: {b: c, '': true, a?: &x z, d: *x}}", "{translate: {'': 'true', a?: z, b: c, d: z}}", []int{0}},
		{"{hoist: k}", "", []int{0}},
		{"{plunge: ''}", "", []int{0}},
		{"{plunge: 'no name'}", "", []int{0}},
		{"{lift: 1}", "{lift: '1'}", []int{0}},
		{"{use: true}", "{use: 'true'}", []int{0}},
		{"{sink: {keys: [b, a, b], into: k}}", "{sink: {into: k, keys: [a, b]}}", []int{0}},
		{"{sink: {into: 1, keys: []}}", "{sink: {into: '1', keys: []}}", []int{0}},
		{"{filter: [.str, .int, '{map', .str, 1]}", "{filter: ['.int', '.str', '1', '{map']}", []int{0}},
		{"{filter: []}", "", []int{0}},
		{"{map: id}", "", []int{0, 6}},
		{"items:\n  keyed: &x id", "{items: {keyed: id}}", []int{0, 9, 16}},
		{"{keyed: {map: copy}}", "", []int{0, 8, 14}},
		{"{on: {b: id, a: {use: f}, '': &x copy, c: *x}}", "{on: {'': copy, a: {use: f}, b: id, c: copy}}", []int{0, 30, 16, 9, 30}},
		{"{on: {}}", "", []int{0}},
		{"{fill: {value: ~, key: k}}", "{fill: {key: k, value: ~}}", []int{0}},
		{"{fill: {key: true, value: !l []}}", "{fill: {key: 'true', value: !l []}}", []int{0}},
	}
	for _, c := range cases {
		d := doc(t, c.text)
		if c.want == "" {
			c.want = c.text
		}
		l, f := program.Lens(schema.New(d), d.Root)
		if f != (api.Fault{}) || !reflect.DeepEqual(bare(l), bare(grind.Lens(c.want))) || !slices.Equal(places(l), c.at) {
			t.Errorf("%q: %v at %d: %+v", c.text, f, f.At, l)
		}
		for _, v := range l.Values {
			if !lens.Literal(v) {
				t.Errorf("%q: %+v", c.text, v)
			}
		}
	}
}

// P25.1: ErrForm at a lens's node, if it is none.
func TestForm(t *testing.T) {
	for _, s := range []string{
		// No text of a kind, no mapping of one key, no kind's word.
		"'compose'", "map", "Id", "~", "true", "1", "!a id", "!str id", "''", "'id '", "[]", "[id]", "{}", "{id: }", "{id: id}", "{copy: ~}", "{x: 1}", "{Map: id}", "{other: id}", "{'': id}",
		"{map: id, items: id}", "{map: id, a: b}", "!a {map: id}", "!map {map: id}", "{'map?': id}",
		// Consts.
		"{const: ~}", "{const: x}", "{const: []}", "{const: {}}", "{const: {view: x}}", "{const: {default: x}}", "{const: {view: x, default: x, a: x}}", "{const: {view: x, defaults: x}}", "{const: !m {view: x, default: x}}",
		"{const: {view: [a], default: x}}", "{const: {view: x, default: {a: b}}}", "{const: {view: x, default: !l [a]}}", "{const: [x, x]}",
		// Composes and Unions.
		"{compose: id}", "{compose: {}}", "{compose: ~}", "{compose: {a: id}}", "{compose: !l [id]}", "{compose: !seq [id]}", "{union: id}", "{union: {a: id, b: id}}", "{union: !l []}", "{union: ~}",
		// Projects.
		"{project: [a]}", "{project: a}", "{project: ~}", "{project: {}}", "{project: {default: {a: b}}}", "{project: {keep: a}}", "{project: {keep: ~}}", "{project: {keep: {}}}", "{project: {keep: {a: b}}}", "{project: {keep: !l [a]}}",
		"{project: {keep: [~]}}", "{project: {keep: [a, []]}}", "{project: {keep: [!a a]}}", "{project: {keep: [{}]}}", "{project: {keep: [a], drop: [b]}}", "{project: {keep: [a], default: {b: c}, rest: d}}",
		"{project: {keep: [a], default: ~}}", "{project: {keep: [a], default: []}}", "{project: {keep: [a], default: x}}", "{project: {keep: [a], default: !m {}}}", "{project: {keep: [a], default: {b: [x]}}}", "{project: {keep: [a], default: {b: x, c: {d: e}}}}", "!m {project: {keep: [a]}}", "{project: !m {keep: [a]}}",
		// Renames and Translates.
		"{rename: a}", "{rename: [a]}", "{rename: ~}", "{rename: !m {a: b}}", "{rename: {a: ~}}", "{rename: {a: b, c: []}}", "{rename: {a: {}}}", "{rename: {a: !a b}}", "{translate: [a, b]}", "{translate: {a: ~}}", "{translate: {a: b, c: [d]}}", "{translate: !m {}}",
		// Names.
		"{hoist: ~}", "{hoist: }", "{hoist: [k]}", "{hoist: {k: v}}", "{plunge: !a k}", "{plunge: ~}", "{lift: []}", "{lift: ~}", "{use: ~}", "{use: [f]}", "{use: !a f}", "{use: {}}",
		// Sinks and Filters.
		"{sink: k}", "{sink: []}", "{sink: {}}", "{sink: {into: k}}", "{sink: {keys: [a]}}", "{sink: {into: ~, keys: [a]}}", "{sink: {into: k, keys: a}}", "{sink: {into: k, keys: [a, ~]}}", "{sink: {into: [k], keys: [a]}}", "{sink: {into: k, keys: [a], b: c}}", "{sink: {into: k, keys: !l [a]}}", "{sink: !m {into: k, keys: [a]}}",
		"{filter: .int}", "{filter: ~}", "{filter: {}}", "{filter: [~]}", "{filter: [.int, [.str]]}", "{filter: !l [.int]}", "{filter: [.int, !a b]}", "{filter: {a: .int}}",
		// Ons and Fills.
		"{on: id}", "{on: ~}", "{on: []}", "{on: [id]}", "{on: !m {a: id}}", "{on: !map {}}",
		"{fill: k}", "{fill: ~}", "{fill: []}", "{fill: {key: k}}", "{fill: {value: x}}", "{fill: {key: ~, value: x}}", "{fill: {key: [], value: x}}", "{fill: {key: k, value: [x]}}", "{fill: {key: k, value: {a: b}}}", "{fill: {key: k, value: x, a: b}}", "{fill: !m {key: k, value: x}}",
	} {
		d := doc(t, "  "+s)
		if got, want := told(schema.New(d), d.Root), form(2); got != want {
			t.Errorf("%q: %s, not %s", s, got, want)
		}
		// Within another one, at its own node.
		d = doc(t, "{compose: [{on: {b: id, a: "+s+"}}]}")
		if got, want := told(schema.New(d), d.Root), form(27); got != want {
			t.Errorf("%q in another one: %s, not %s", s, got, want)
		}
	}
}

// P25.1: of several that are none the first is told: a lens ahead of those in it, these in order, of an On by rising keys.
func TestOrder(t *testing.T) {
	for s, at := range map[string]int{
		"{compose: [id, [], {}]}":                     15,
		"{compose: [id, {map: []}, []]}":              21,
		"{compose: [id, {const: []}, []]}":            15,
		"{on: {b: [], a: {}}}":                        16,
		"{on: {b: [], a: id}}":                        9,
		"{on: {b: &x {items: copie}, a: *x}}":         20,
		"{on: {b: [], a: {union: [{on: []}, {}]}}}":   25,
		"{union: [{keyed: {hoist: []}}, []]}":         17,
		"{union: [{keyed: {hoist: k}}, []]}":          30,
		"{map: {items: {keyed: {map: {sink: {}}}}}}":  28,
		"{map: {items: {keyed: {map: {sinks: {}}}}}}": 28,
		"{map: {items: [id]}}":                        14,
	} {
		d := doc(t, s)
		if got := told(schema.New(d), 0); got != form(at) {
			t.Errorf("%q: %s, not %s", s, got, form(at))
		}
	}
}

// P25.1: each node of a document may be asked; ErrForm at 0, if there is no such node.
func TestNumbers(t *testing.T) {
	d := doc(t, "  - &x id\n  - map: *x\n  - [copy]\n  - {use: t}")
	r := schema.New(d)
	for n, want := range []string{form(2), "ok", "ok", form(26), "ok", "ok", form(43)} {
		if got := told(r, n); got != want {
			t.Errorf("%d: %s, not %s", n, got, want)
		}
	}
	for _, n := range append(sketch.Odd(), len(d.Nodes)) {
		if got := told(r, n); got != form(0) {
			t.Errorf("%d: %s", n, got)
		}
	}
}

// repeat is a text some times, with commas between.
func repeat(n int, s string) string {
	return strings.TrimSuffix(strings.Repeat(s+",", n), ",")
}

// P25.1: as many parts as there may be, and one more: ErrMany at its node; what is shared counts as often as it is read.
func TestMany(t *testing.T) {
	for _, c := range []struct{ text, want string }{
		{"{compose: [" + repeat(399, "id") + "]}", "ok"},
		{"{compose: [" + repeat(400, "id") + "]}", many(11 + 399*3)},
		{"{compose: [" + repeat(4000, "id") + "]}", many(11 + 399*3)},
		{"{compose: [" + repeat(399, "id") + ",[]]}", many(11 + 399*3)},
		{"{compose: [" + repeat(398, "id") + ",[]]}", form(11 + 398*3)},
		{"{union: [" + repeat(399, "{map: id}") + "]}", many(9 + 199*10 + 6)},
		{"{union: [&x id" + strings.Repeat(",*x", 398) + "]}", "ok"},
		{"{union: [&x id" + strings.Repeat(",*x", 399) + "]}", many(9)},
		{"{union: [&x {map: id}" + strings.Repeat(",*x", 198) + "]}", "ok"},
		{"{union: [&x {map: id}" + strings.Repeat(",*x", 199) + "]}", many(18)},
		// What a lens has beside lenses is no part.
		{"{project: {keep: [" + repeat(2000, "a") + "]}}", "ok"},
		{"{filter: [" + repeat(2000, "a") + "]}", "ok"},
		{"{union: [" + repeat(399, "{const: {view: a, default: b}}") + "]}", "ok"},
		// What stands within itself has no end.
		{"  &x {map: *x}", many(2)},
		{"{compose: [&x {items: {keyed: *x}}]}", many(22)},
		{"&x {compose: [*x, []]}", many(0)},
		{"&x {compose: [[], *x]}", form(14)},
		{"&x {on: *x}", many(0)},
		{"&x {on: {a: *x, b: []}}", many(0)},
		{"&x {compose: *x}", form(0)},
		{"{compose: &x [*x]}", form(10)},
		{"&x {hoist: *x}", form(0)},
		{"&x {rename: *x}", form(0)},
		{"&x {project: *x}", form(0)},
		{"{project: {keep: &x [*x]}}", form(0)},
		{"{const: {view: &x [*x], default: a}}", form(0)},
		{"&x [*x]", form(0)},
	} {
		d := doc(t, c.text)
		if got := told(schema.New(d), 0); got != c.want {
			t.Errorf("%.60q: %.100s, not %.100s", c.text, got, c.want)
		}
	}
}

// P25.1: a reader counts parts of types and of lenses together.
func TestTogether(t *testing.T) {
	d := doc(t, "[{map: id}, {list: t}, []]")
	for types := range 201 {
		r := schema.New(d)
		for range types {
			if x, f := r.Type(3); f.Bad() || x.Kind == 0 {
				t.Fatal(x, f)
			}
		}
		for range 200 - types {
			if got := told(r, 1); got != "ok" {
				t.Fatal(got)
			}
		}
		if got := told(r, 1); got != many(1) {
			t.Error(got)
		}
		if got := told(r, 5); got != many(d.At[5]) {
			t.Error(got)
		}
		if x, f := r.Type(3); f != (api.Fault{Errno: api.ErrMany, At: d.At[3]}) {
			t.Error(x, f)
		}
		if got := told(r, 99); got != form(0) {
			t.Error(got)
		}
	}
	r := schema.New(d)
	for range 399 {
		r.Part(0)
	}
	if got := told(r, 1); got != many(d.At[2]) {
		t.Error(got)
	}
}

// R1, R6: documents of another make are told of, too, and all ends.
func TestOdd(t *testing.T) {
	key := func(keys string, kids ...int) graph.Node { return sketch.Map(keys, kids...) }
	graphs := append(sketch.MayNot(), sketch.Of(0, graph.Node{Kind: 7, Tag: "str", Text: "id"}), sketch.Of(0, key("map", 0, 0)), sketch.Of(0, key("map")))
	for _, word := range []string{"const", "compose", "project", "rename", "hoist", "sink", "filter", "map", "on", "union", "fill", "translate", "use"} {
		for _, below := range []graph.Node{sketch.Seq(7, -7), key("a b", 7), key("a b", 7, -9), key("view default", 9, -9), key("keep default", 2, 9), key("keep", 9), key("key value", 2, 9), key("key value", 9, 2), key("into keys", 2, 9), {Kind: 9}, {Kind: graph.Scalar, Tag: "str", Kids: []int{4}}} {
			graphs = append(graphs, sketch.Of(0, key(word, 1), below, sketch.Seq(9)), sketch.Of(0, key(word, 9)), sketch.Of(0, key(word, -1)))
		}
	}
	for _, g := range graphs {
		for _, at := range [][]int{nil, {5}, {5, 6, 7, 8, 9, 10, 11}} {
			r := schema.New(load.Doc{Graph: g, At: at})
			for _, n := range append(sketch.Odd(), 0, 1, 2, 3) {
				if got := told(r, n); strings.HasPrefix(got, "something") {
					t.Errorf("%d of %v: %s", n, g, got)
				}
			}
		}
	}
}

// R3: what is handed in stays as it is, whatever is written into what is handed out; two lenses of one node are apart.
func TestHandedIn(t *testing.T) {
	const text = "{compose: [&x {project: {keep: [b, a], default: {c: []}}}, *x, &y {on: {b: *x, a: id}}, *y, {sink: {into: k, keys: [b, a]}}, {filter: [b, a]}, {rename: {b: x, a: y}}]}"
	d := doc(t, text)
	was := sketch.Whole(d.Graph)
	r := schema.New(d)
	want, f := program.Lens(r, 0)
	if f.Bad() {
		t.Fatal(f)
	}
	for range 5 {
		l, f := program.Lens(r, 0)
		if f.Bad() || !reflect.DeepEqual(l, want) {
			t.Fatal(f, l)
		}
		x, y := bare(l.Kids[1]), bare(l.Kids[3])
		scribble(l.Kids[0])
		scribble(l.Kids[2])
		if !reflect.DeepEqual(bare(l.Kids[1]), x) || !reflect.DeepEqual(bare(l.Kids[3]), y) {
			t.Errorf("%+v", l)
		}
		scribble(l)
	}
	if now := sketch.Whole(d.Graph); !sketch.Equal(now, was) {
		t.Errorf("%v, not %v", now, was)
	}
}

// scribble writes into all lists of a lens.
func scribble(l lens.Lens) {
	for _, texts := range [][]string{l.Keys, l.Words, l.Drops} {
		for i := range texts[:cap(texts)] {
			texts[:cap(texts)][i] = "written"
		}
	}
	for i := range l.Kids {
		scribble(l.Kids[i])
		l.Kids[i] = lens.Lens{}
	}
	for i := range l.Values {
		l.Values[i] = value.Value{}
	}
}
