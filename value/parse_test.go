package value_test

import (
	"slices"
	"strings"
	"testing"

	"stanhope/api"
	"stanhope/carve"
	"stanhope/graph"
	"stanhope/iso"
	"stanhope/load"
	"stanhope/sketch"
	"stanhope/spell"
	"stanhope/typ"
	"stanhope/value"
)

// loaded is the only document of a text.
func loaded(t *testing.T, s string) load.Doc {
	t.Helper()
	d, f := load.One(s)
	if f.Bad() {
		t.Fatalf("%s: %v at %d", s, f, f.At)
	}
	return d
}

// right is a type that may be.
func right(t *testing.T, d typ.Defs, s string) typ.Type {
	t.Helper()
	x := spell.Type(s)
	if f := typ.Check(d, x); f.Bad() {
		t.Fatalf("%s: %v at %d", s, f, f.At)
	}
	return x
}

// The chapter's example 1.
func TestExample(t *testing.T) {
	g := sketch.Of(0, sketch.Map("a b", 1, 1), sketch.Str("x"))
	v, f := value.Parse(typ.Defs{}, spell.Type("{map a:str b:str}"), g)
	if f != (api.Fault{Errno: api.ErrShare, At: 1}) || !carve.Equal(v, value.Value{}) {
		t.Error(v, f, f.At)
	}
	v, f = value.Parse(typ.Defs{}, spell.Type("{map a:any b:any}"), g)
	if f.Bad() || !carve.Equal(v, of("{a: !leaf 1, b: !leaf 1}")) {
		t.Error(v, f, f.At)
	}
}

// P16.1: the value of a graph, of a type; nodes are numbered in the order in which they are written.
func TestParse(t *testing.T) {
	d := spell.Defs(defined)
	for _, c := range []struct{ typ, doc, want string }{
		{"any", "x", "!leaf 0"},
		{"dag", "{a: [x]}", "!leaf 0"},
		{"$any", "&r [*r]", "!leaf 0"},
		{"[seq any]", "[x, y, &x [*x]]", "[!leaf 1, !leaf 2, !leaf 3]"},
		{"[seq any]", "[&x [y], *x, *x]", "[!leaf 1, !leaf 1, !leaf 1]"},
		// Leaves may reach one another.
		{"[seq any]", "[&x [&y [z, *x]], *y]", "[!leaf 1, !leaf 2]"},
		{"[seq dag]", "[[&y [z], *y], *y, z]", "[!leaf 1, !leaf 2, !leaf 4]"},
		{"{map a:dag b:any}", "{a: [&x y], b: &z [*z, *x]}", "{a: !leaf 1, b: !leaf 3}"},
		{"{map a:any b:any}", "{b: x, a: y}", "{a: !leaf 2, b: !leaf 1}"},
		{"{map a:str b?:any c:[seq dag]}", "{c: [&x [1], *x], b: *x, a: 'x'}", "{a: x, b: !leaf 2, c: [!leaf 2, !leaf 2]}"},
		{"{map a:str b?:any *:int}", "{d: 1, a: x, '': 2}", "{'': 2, a: x, d: 1}"},
		{"{!m *:any}", "!m {c: x, a: y, b: z}", "!m {a: !leaf 2, b: !leaf 3, c: !leaf 1}"},
		{"[seq by k {map k:str v:any}]", "[{k: a, v: &x []}, {k: b, v: *x}]", "[{k: a, v: !leaf 3}, {k: b, v: !leaf 3}]"},
		{"(str|[seq (int|[seq dag])])", "[1, [x], 2]", "[1, [!leaf 3], 2]"},
		{"$many", "[x, {a: [], b: y}]", "[x, {a: [], b: y}]"},
		{"$node", "{v: 1, r: {v: 2, l: {v: 3}}, l: {v: 4}}", "{l: {v: 4}, r: {l: {v: 3}, v: 2}, v: 1}"},
	} {
		g := loaded(t, c.doc).Graph
		for _, x := range []typ.Type{right(t, d, c.typ), spell.Noisy(right(t, d, c.typ))} {
			v, f := value.Parse(d, x, g)
			if f.Bad() || !carve.Equal(v, of(c.want)) {
				t.Errorf("%s by %s: %+v, %v at %d", c.doc, c.typ, v, f, f.At)
				continue
			}
			holdBack(t, d, x, g, v)
		}
	}
}

// P16.1: a tree without leaves is that of a graph of a type just if it is of the type; it is the graph's value.
// (Where a leaf may stand, a graph that has no such tree may be of the type, too.)
func TestTables(t *testing.T) {
	d := spell.Defs(defined)
	for _, c := range tables {
		x := right(t, d, c.typ)
		for i, s := range append(c.are, c.no...) {
			want := of(s)
			if len(want.Leaves()) > 0 {
				continue
			}
			g, f := value.Weave(want, graph.Graph{})
			v, wrong := value.Parse(d, x, g)
			if f.Bad() || len(v.Leaves()) == 0 && (wrong.Bad() == (i < len(c.are)) || !wrong.Bad() && !carve.Equal(v, want)) {
				t.Errorf("%s by %s: %+v, %v at %d", s, c.typ, v, wrong, wrong.At)
			}
		}
	}
}

// holdBack holds P16.4 of a graph, a type and the value that the graph has.
func holdBack(t *testing.T, d typ.Defs, x typ.Type, g graph.Graph, v value.Value) {
	t.Helper()
	back, f := value.Weave(v, g)
	if f.Bad() || !sketch.Equal(back, g.Trim()) || !iso.Same(back, g) {
		t.Fatalf("%v: %v at %d, %v woven of %+v", g, f, f.At, back, v)
	}
	if !v.May() || !value.Of(d, x, v) {
		t.Fatalf("%v: %+v may be %v", g, v, v.May())
	}
	m := iso.New(g, back)
	if !m.Join(g.Root, back.Root) {
		t.Fatalf("%v: %v woven of %+v", g, back, v)
	}
	again, f := value.Parse(d, x, back)
	if f.Bad() || !carve.Equal(again, carve.Moved(v, m.To)) {
		t.Fatalf("%v: %v at %d, %+v, then %+v", g, f, f.At, v, again)
	}
}

// wrongs are types, and texts of graphs in which the node at which an error is told is marked by ^.
type wrongs []struct{ word, typ, doc string }

// hold holds what Parse tells of graphs.
func (l wrongs) hold(t *testing.T) {
	t.Helper()
	d := spell.Defs(defined)
	for _, c := range l {
		doc := loaded(t, strings.Replace(c.doc, "^", "", 1))
		for _, x := range []typ.Type{right(t, d, c.typ), spell.Noisy(right(t, d, c.typ))} {
			v, f := value.Parse(d, x, doc.Graph)
			if !carve.Equal(v, value.Value{}) != (c.word == "") || f.Bad() == (c.word == "") {
				t.Errorf("%s by %s: %+v, %v at %d", c.doc, c.typ, v, f, f.At)
			}
			if f.Bad() && (f.Word() != c.word || doc.At[f.At] != strings.Index(c.doc, "^")) {
				t.Errorf("%s by %s: %v at %d", c.doc, c.typ, f, doc.At[f.At])
			}
		}
	}
}

// P16.1: ErrType, at the node that isn't as told.
func TestType(t *testing.T) {
	wrongs{
		{"type", "str", "^1"},
		{"type", "str", "^[x]"},
		{"type", "{map a:str}", "^{}"},
		{"type", "{map a:str}", "^!m {a: x}"},
		{"type", "{map a:str}", "{a: ^1}"},
		{"type", "{map a:str}", "^{a: x, b: y}"},
		{"type", "{map a:str}", "^{a: 1, b: y}"},
		{"type", "{map a?:str}", "{a: ^{}}"},
		{"type", "{map a:{map a:str} *:str}", "{a: ^{b: x}, b: y}"},
		{"type", "{map *:int}", "{b: 1, a: ^x}"},
		{"type", "{map a:int b:int}", "{b: x, a: ^y}"},
		{"type", "[seq int]", "[1, ^x, y]"},
		{"type", "[seq int]", "^!a [x]"},
		{"type", "[seq [seq int]]", "[[1], [2, ^x], y]"},
		{"type", "(int|str)", "^~"},
		{"type", "(int|{map a:str})", "^{b: x}"},
		{"type", "(int|[seq (int|{map a:str})])", "[1, {a: ^2}]"},
		{"type", "(int|[seq (int|{map a:str})])", "[1, ^x]"},
		{"type", `<str "a">`, "^b"},
		{"type", "$many", "[x, {a: ^1}]"},
		{"type", "[seq by k {map k:str}]", "[{k: x}, ^{l: x}]"},
		{"type", "[seq by k {map k:str}]", "[{k: x}, {k: ^1}]"},
		{"type", "[seq by k {map k:str}]", "^{k: x}"},
	}.hold(t)
}

// P16.1: ErrShare, at a place where a node stands that was met at one ahead.
func TestShare(t *testing.T) {
	wrongs{
		{"share", "{map a:str b:str}", "{a: ^&x x, b: *x}"},
		{"share", "[seq str]", "[x, ^&x x, y, *x]"},
		{"share", "[seq [seq str]]", "[^&x [], *x]"},
		{"share", "$many", "^&x [*x]"},
		{"share", "$many", "[^&x [[*x]]]"},
		{"share", "$many", "[[^&x {a: y}], {b: *x}]"},
		{"share", "{map a:str b:any}", "{a: ^&x x, b: *x}"},
		{"share", "{map a:str b:any}", "{b: ^&x x, a: *x}"},
		{"share", "{map a:any b:str}", "{b: ^&x x, a: *x}"},
		{"share", "{map a:str b:dag}", "{a: &x x, b: ^[*x]}"},
		{"share", "{map a:any b:str}", "{b: &x x, a: ^[y, [*x]]}"},
		{"share", "[seq any]", "^&x [*x]"},
		{"share", "[seq any]", "&x [y, ^[*x]]"},
		{"share", "{map a:any b:[seq str]}", "{b: &x [y], a: ^[*x]}"},
		{"share", "(str|[seq (int|[seq any])])", "&x [[y, ^[z, *x]]]"},
		// Ahead of ErrType there.
		{"share", "{map a:str b:int}", "{a: ^&x x, b: *x}"},
		{"share", "{map a:str b:[seq any]}", "{a: ^&x x, b: *x}"},
		{"share", "$node", "^&x {l: *x, v: 1}"},
		{"share", "[seq by k {map k:str}]", "[^&x {k: a}, *x]"},
		{"share", "[seq by k {map k:str}]", "[{k: ^&x a}, {k: *x}]"},
		{"", "{map a:any b:str}", "{a: x, b: x}"},
	}.hold(t)
}

// P16.1: ErrTwice, at an item behind all of a Keyed's items.
func TestTwice(t *testing.T) {
	wrongs{
		{"twice", "[seq by k {map k:str}]", "[{k: a}, ^{k: a}]"},
		{"twice", "[seq by k {map k:str}]", "[{k: a}, {k: b}, {k: c}, ^{k: b}, {k: a}]"},
		{"twice", "[seq by k {map k:str}]", "[{k: a}, {k: b}, ^{k: b}, {k: a}]"},
		{"twice", "[seq by k {map k:str}]", "[{k: a}, ^{k: a}, {k: a}]"},
		{"twice", "[seq by k {map k:str}]", "[{k: ''}, ^{k: ''}]"},
		{"twice", "[seq by k {map a:any k:int}]", "[{k: 1, a: x}, ^{k: 1, a: y}]"},
		{"twice", "[seq by k {map k:null}]", "[{k: ~}, ^{k: ~}]"},
		{"twice", "[seq by k $item]", "[{k: a, l: x}, {k: b}, ^{k: a}]"},
		{"twice", "{map a:[seq by k {map k:str}] b:int}", "{b: x, a: [{k: a}, ^{k: a}]}"},
		// Behind all items, not behind all.
		{"type", "[seq by k {map k:str}]", "[{k: a}, {k: a}, ^{}]"},
		{"type", "[seq by k {map k:str v?:int}]", "[{k: a}, {k: a}, {k: b, v: ^x}]"},
		{"share", "[seq by k {map k:str v?:str}]", "[{k: ^&x a}, {k: a}, {k: b, v: *x}]"},
		{"type", "[seq [seq by k {map k:str}]]", "[^x, [{k: a}, {k: a}]]"},
		{"twice", "[seq [seq by k {map k:str}]]", "[[{k: a}, ^{k: a}], x]"},
		{"twice", "[seq by k {map k:str l?:[seq by k {map k:str}]}]", "[{k: a}, {k: a, l: [{k: c}, ^{k: c}]}, {}]"},
		{"twice", "[seq by k {map k:str l?:[seq by k {map k:str}]}]", "[{k: a}, ^{k: a, l: [{k: c}, {k: a}]}]"},
		{"", "[seq by k {map k:str l?:[seq by k {map k:str}]}]", "[{k: a}, {k: b, l: [{k: a}, {k: b}]}]"},
		{"", "[seq by k {map k:str l?:str}]", "[{k: a, l: a}, {k: b, l: a}]"},
		// Ahead of the leaves'.
		{"twice", "[seq by k {map a:dag k:str}]", "[{k: a, a: &x [*x]}, ^{k: a, a: x}]"},
		{"twice", "[seq by k {map a:any k:str}]", "[{k: &k a, a: [*k]}, ^{k: a, a: x}]"},
	}.hold(t)
}

// P16.1: ErrCycle, at a leaf of the type Dag.
func TestCycle(t *testing.T) {
	wrongs{
		{"cycle", "dag", "^&x [*x]"},
		{"cycle", "dag", "^[y, [&x {a: [*x]}]]"},
		{"cycle", "{map a:any b:dag}", "{a: &x [*x], b: ^[*x]}"},
		{"cycle", "{map a:any b:dag}", "{a: ^&x [*x], b: *x}"},
		{"cycle", "{map a:dag b:any}", "{b: ^&x [*x], a: *x}"},
		{"cycle", "[seq dag]", "[x, [y], ^[&x [*x]], *x]"},
		{"cycle", "[seq (str|{map *:dag})]", "[x, {b: &x [*x], a: ^[*x]}]"},
		{"cycle", "{map a:[seq any] b:$dag}", "{a: [&x {k: *x}], b: ^[*x]}"},
		{"", "{map a:any b:dag}", "{a: &x [*x, &y [z]], b: [*y, *y]}"},
		{"", "[seq dag]", "[&x [z], &y [*x, *x], [*y, *x]]"},
	}.hold(t)
}

// P16.1: which of several is the first.
func TestFirst(t *testing.T) {
	wrongs{
		// In the order of going.
		{"type", "{map a:int b:int}", "{b: x, a: ^y}"},
		{"type", "{map a:str b:int c:str}", "{a: &x x, b: ^y, c: *x}"},
		{"share", "{map a:str b:str c:int}", "{a: ^&x x, b: *x, c: y}"},
		{"share", "{map a:str b:any c:int}", "{a: ^&x x, b: *x, c: y}"},
		{"type", "{map a:str b:any c:int}", "{a: &x x, b: [*x], c: ^y}"},
		{"type", "{map a:any b:str c:int}", "{b: &x x, a: *x, c: ^y}"},
		{"type", "{map a:dag b:int}", "{a: &x [*x], b: ^y}"},
		// Leaf by leaf.
		{"share", "{map a:any b:any c:str}", "{c: &x x, a: ^[*x], b: *x}"},
		{"share", "{map a:any b:any c:str}", "{c: &x x, b: ^[*x], a: [z]}"},
		{"share", "[seq any]", "&r [&x [y], ^[*x, *r], [*r]]"},
		{"share", "{map a:dag b:any c:str}", "{c: &x x, a: &y [*y], b: ^[*x]}"},
		{"share", "{map a:dag b:dag c:str}", "{c: &x x, a: &y [*y], b: ^[*x]}"},
		{"share", "[seq dag]", "&r [&x [*x], ^[*r]]"},
		{"cycle", "{map a:dag b:dag}", "{b: &y [*y], a: ^&x [*x]}"},
		{"cycle", "{map a:any b:dag c:dag}", "{a: &x [*x], b: y, c: ^[*x]}"},
	}.hold(t)
}

// P16.1: nodes have the numbers that they have in the graph, wherever they stand, and whether or not all are reached.
func TestNumbers(t *testing.T) {
	str, seq := sketch.Str, sketch.Seq
	g := sketch.Of(5, str("x"), seq(2), str("y"), seq(4, 0), sketch.Scalar("int", "1"), sketch.Map("c b a", 2, 1, 3), seq(6, 5))
	for _, c := range []struct {
		typ, want string
		fault     api.Fault
	}{
		{"any", "!leaf 5", api.Fault{}},
		{"{map a:any b:any c:any}", "{a: !leaf 3, b: !leaf 1, c: !leaf 2}", api.Fault{}},
		{"{map a:[seq any] b:dag c:any}", "{a: [!leaf 4, !leaf 0], b: !leaf 1, c: !leaf 2}", api.Fault{}},
		{"{map a:[seq (int|str)] b:any c:dag}", "{a: [1, x], b: !leaf 1, c: !leaf 2}", api.Fault{}},
		{"{map a:any b:any}", "", api.Fault{Errno: api.ErrType, At: 5}},
		{"{map a:[seq str] b:any c:any}", "", api.Fault{Errno: api.ErrType, At: 4}},
		{"{map a:any b:any c:str}", "", api.Fault{Errno: api.ErrShare, At: 1}},
		{"{map a:any b:[seq str] c:str}", "", api.Fault{Errno: api.ErrShare, At: 2}},
		{"{map a:any b:[seq str] c:any}", "", api.Fault{Errno: api.ErrShare, At: 2}},
	} {
		v, f := value.Parse(typ.Defs{}, right(t, typ.Defs{}, c.typ), g)
		if f != c.fault || !f.Bad() && !carve.Equal(v, of(c.want)) {
			t.Errorf("%s: %+v, %v at %d", c.typ, v, f, f.At)
		}
	}
	loop := sketch.Of(1, seq(0), seq(2, 3), seq(2, 1), seq(3))
	if _, f := value.Parse(typ.Defs{}, spell.Type("[seq any]"), loop); f != (api.Fault{Errno: api.ErrShare, At: 2}) {
		t.Error(f, f.At)
	}
	loop.Nodes[2].Kids[1] = 0
	if _, f := value.Parse(typ.Defs{}, spell.Type("[seq dag]"), loop); f != (api.Fault{Errno: api.ErrCycle, At: 2}) {
		t.Error(f, f.At)
	}
}

// holdMayNot holds what Parse tells of a graph that may not be, whatever the type is.
func holdMayNot(t *testing.T, g graph.Graph, want api.Fault) {
	t.Helper()
	for _, s := range []string{"any", "dag", "str", "[seq any]", "[seq str]", "{map *:any}", "$many"} {
		v, f := value.Parse(spell.Defs(defined), spell.Type(s), g)
		if f != want || !carve.Equal(v, value.Value{}) {
			t.Errorf("%d nodes, the root %d, by %s: %+v, %v at %d, not %v at %d", len(g.Nodes), g.Root, s, v, f, f.At, want, want.At)
		}
	}
}

// replaced is a graph with a node in the place of another one.
func replaced(g graph.Graph, at int, n graph.Node) graph.Graph {
	g = sketch.Of(g.Root, slices.Clone(g.Nodes)...)
	g.Nodes[at] = n
	return g
}

// notRight are nodes that aren't right in a graph of at most 4096 nodes.
func notRight() []graph.Node {
	return []graph.Node{
		{},
		{Kind: 4, Tag: "str"},
		sketch.Scalar("int", "x"),
		sketch.Scalar("", "x"),
		sketch.Scalar("map", ""),
		sketch.Str("x\xff"),
		sketch.Str(strings.Repeat("x", 1025)),
		{Kind: graph.Scalar, Tag: "str", Kids: []int{0}},
		sketch.Seq(-1),
		sketch.Seq(0, 4096),
		sketch.Tagged("map", sketch.Seq()),
		{Kind: graph.Seq, Tag: "seq", Text: "x"},
		{Kind: graph.Seq, Tag: "seq", Keys: []string{"a"}, Kids: []int{0}},
		sketch.Map("a"),
		sketch.Map("a a", 0, 0),
		sketch.Map("a", 4096),
		sketch.Keyed("x\xff", 0),
		sketch.Keyed(strings.Repeat("x", 1025), 0),
	}
}

// P16.1: of a node that isn't right it is ErrShape at its number, whatever the type is.
func TestNotRight(t *testing.T) {
	x, bad := sketch.Str("x"), sketch.Scalar("int", "x")
	shape := func(at int) api.Fault { return api.Fault{Errno: api.ErrShape, At: at} }
	for i, c := range []struct {
		g  graph.Graph
		at int
	}{
		{sketch.Of(0, bad), 0},
		{sketch.Of(0, sketch.Seq(1), bad), 1},
		{sketch.Of(1, bad, sketch.Seq(0)), 0},
		{sketch.Of(0, sketch.Map("b a", 2, 1), x, bad), 2},
		// Whether or not it is reached.
		{sketch.Of(0, x, x, bad), 2},
		{sketch.Of(3, x, bad, x, x), 1},
		{sketch.Of(2, x, x, x, sketch.Seq(4)), 3},
		// The first by its number, not by the order of going.
		{sketch.Of(0, sketch.Seq(2, 1), bad, bad), 1},
		{sketch.Of(2, x, bad, sketch.Seq(3, 1), bad), 1},
		{sketch.Of(0, sketch.Map("b a", 1, 2), bad, bad), 1},
		{sketch.Of(0, x, sketch.Seq(9), bad), 1},
		// Ahead of a Root that is none, and of all that is wrong by the type.
		{sketch.Of(7, x, bad), 1},
		{sketch.Of(-1, x, x, bad), 2},
		{sketch.Of(3, x, x, bad), 2},
		{sketch.Of(0, sketch.Seq(0, 1, 1), x, bad), 2},
	} {
		if f := c.g.Check(); f != shape(c.at) {
			t.Errorf("%d: %v at %d", i, f, f.At)
		}
		holdMayNot(t, c.g, shape(c.at))
	}
	for _, n := range notRight() {
		for _, at := range []int{0, 1, 2, 9, 4094, 4095} {
			holdMayNot(t, replaced(sketch.Chain(max(10, at+1)), at, n), shape(at))
		}
	}
}

// P16.1: of a graph that is wrong itself it is layer 9's error at 0, whatever the type is.
func TestMayNotBe(t *testing.T) {
	shape, nodes := api.Fault{Errno: api.ErrShape}, api.Fault{Errno: api.ErrNodes}
	for _, n := range []int{0, 1, 2, 3, 4095, 4096} {
		g := sketch.Chain(n + 1)
		g.Nodes = g.Nodes[:n]
		if n > 0 {
			g.Nodes[n-1] = sketch.Str("x")
		}
		for _, root := range append(sketch.Odd(), n, n+1, 4096, 4097) {
			holdMayNot(t, sketch.Of(root, g.Nodes...), shape)
		}
	}
	for _, n := range []int{4097, 4098, 5000} {
		g := sketch.Chain(n)
		for _, root := range append(sketch.Odd(), 0, 1, 4095, 4096, n, n+1) {
			holdMayNot(t, sketch.Of(root, g.Nodes...), nodes)
		}
		// Ahead of each node that isn't right.
		for _, at := range []int{0, 1, 4095, 4096} {
			holdMayNot(t, replaced(g, at, sketch.Seq(n)), nodes)
		}
		holdMayNot(t, sketch.Of(0, make([]graph.Node, n)...), nodes)
	}
	for i, g := range sketch.MayNot() {
		want := g.Check()
		if !want.Bad() {
			t.Errorf("%d: may be", i)
		}
		if want.Errno == api.ErrNodes || want.At == len(g.Nodes) {
			want.At = 0
		}
		holdMayNot(t, g, want)
	}
}

// P16.1: so it is of graphs as they fall, of a type but for some of their nodes.
func TestNotRightMade(t *testing.T) {
	m := made(41)
	bad := notRight()
	for range 3000 {
		x := m.right()
		g := m.graph(x)
		first := len(g.Nodes)
		for range 1 + m.Pick(3) {
			at := m.Pick(len(g.Nodes))
			g = replaced(g, at, bad[m.Pick(len(bad))])
			first = min(first, at)
		}
		v, f := value.Parse(m.d, x, g)
		if f != (api.Fault{Errno: api.ErrShape, At: first}) || !carve.Equal(v, value.Value{}) {
			t.Fatalf("%v by %s: %+v, %v at %d, not at %d", g, typ.Show(x), v, f, f.At, first)
		}
	}
}

// R1, R6: by types that may not be there is an end.
func TestParseOdd(t *testing.T) {
	d := spell.Defs(wrongly)
	l := sketch.Small()
	for _, n := range sketch.Looks() {
		l = append(l, sketch.Of(0, n, sketch.Str("x"), sketch.Str("x"), sketch.Seq(0), sketch.Seq(1)))
	}
	for _, s := range mayNot {
		for _, g := range l {
			value.Parse(d, spell.Type(s), g)
			value.Parse(typ.Defs{Names: d.Names}, spell.Noisy(spell.Type(s)), g)
		}
	}
}

// P16.1: graphs of as many nodes as may be, one within the other, are gone through, and all of many leaves.
func TestFar(t *testing.T) {
	d := spell.Defs(defined + " row=[seq $row]")
	v, f := value.Parse(d, right(t, d, "$row"), sketch.Chain(4096))
	if f.Bad() || v.Size() != 4096 || len(v.Leaves()) != 0 {
		t.Error(v.Size(), f, f.At)
	}
	holdBack(t, d, spell.Type("$row"), sketch.Chain(4096), v)
	if _, f := value.Parse(d, spell.Type("$row"), sketch.Loop(4096)); f != (api.Fault{Errno: api.ErrShare}) {
		t.Error(f, f.At)
	}
	if _, f := value.Parse(d, spell.Type("$row"), sketch.Of(7, sketch.Loop(4096).Nodes...)); f != (api.Fault{Errno: api.ErrShare, At: 7}) {
		t.Error(f, f.At)
	}
	if _, f := value.Parse(d, spell.Type("dag"), sketch.Loop(4096)); f != (api.Fault{Errno: api.ErrCycle}) {
		t.Error(f, f.At)
	}
	// A sequence of all others, which form one chain: each of 4095 leaves reaches all behind it.
	g := sketch.Of(0, append([]graph.Node{sketch.Seq()}, sketch.Chain(4095).Nodes...)...)
	for i := range 4095 {
		g.Nodes[0].Kids = append(g.Nodes[0].Kids, 4095-i)
		for j := range g.Nodes[i+1].Kids {
			g.Nodes[i+1].Kids[j]++
		}
	}
	for _, s := range []string{"[seq any]", "[seq dag]"} {
		v, f := value.Parse(d, right(t, d, s), g)
		if f.Bad() || v.Size() != 4096 || len(v.Leaves()) != 4095 || v.Leaves()[0] != 4095 {
			t.Error(v.Size(), f, f.At)
		}
		holdBack(t, d, spell.Type(s), g, v)
	}
	g.Nodes[1].Kids = append(g.Nodes[1].Kids, 1)
	if _, f := value.Parse(d, spell.Type("[seq dag]"), g); f != (api.Fault{Errno: api.ErrCycle, At: 1}) {
		t.Error(f, f.At)
	}
	g.Nodes[4095].Kids = append(g.Nodes[4095].Kids, 0)
	if _, f := value.Parse(d, spell.Type("[seq dag]"), g); f != (api.Fault{Errno: api.ErrShare, At: 4095}) {
		t.Error(f, f.At)
	}
}
