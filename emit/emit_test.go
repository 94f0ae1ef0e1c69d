package emit_test

import (
	"fmt"
	"strings"
	"testing"

	"stanhope/api"
	"stanhope/emit"
	"stanhope/graph"
	"stanhope/iso"
	"stanhope/load"
	"stanhope/sketch"
)

// a is a text of that many a.
func a(n int) string { return strings.Repeat("a", n) }

// told is a text, or the fault, as the tests write it.
func told(s string, f api.Fault) string {
	if f != (api.Fault{}) {
		return wrong(f.Errno, f.At) + s
	}
	return s
}

// wrong is an error as told writes it.
func wrong(e api.Errno, at int) string { return fmt.Sprintf("(%v at %d)", e, at) }

// loaded is the graph of a document.
func loaded(t *testing.T, s string) graph.Graph {
	t.Helper()
	d, f := load.One(s)
	if f.Bad() {
		t.Fatalf("%.200q: %v at %d", s, f, f.At)
	}
	return d.Graph
}

// back checks that a graph's text is loaded as the same graph, and that this has the text, too.
func back(t *testing.T, g graph.Graph, s string) {
	t.Helper()
	d := loaded(t, s)
	if !iso.Same(d, g) {
		t.Fatalf("%.200q is loaded as %v, not %v", s, d, g)
	}
	if again := told(emit.Graph(d)); again != s {
		t.Fatalf("%.200q: again %.200q", s, again)
	}
}

// asked is a graph's text, or the fault; Docs of it alone is the same, and what is loaded of it is the graph.
func asked(t *testing.T, g graph.Graph) string {
	t.Helper()
	got, f := emit.Graph(g)
	if one := told(emit.Docs(g)); one != told(got, f) {
		t.Fatalf("%v: Docs %.200q, Graph %.200q", g, one, told(got, f))
	}
	if !f.Bad() {
		back(t, g, got)
	}
	return told(got, f)
}

type good struct {
	g    graph.Graph
	want string
}

// hold holds the texts of graphs.
func hold(t *testing.T, cases []good) {
	t.Helper()
	for _, c := range cases {
		if got := asked(t, c.g); got != c.want {
			t.Errorf("%v: %.300q, not %.300q", c.g, got, c.want)
		}
	}
}

type way struct{ s, want string }

// rewrite holds the texts of what is loaded.
func rewrite(t *testing.T, cases []way) {
	t.Helper()
	for _, c := range cases {
		if got := asked(t, loaded(t, c.s)); got != c.want {
			t.Errorf("%q: %q, not %q", c.s, got, c.want)
		}
	}
}

// The chapter's example, and the whole's 1 and 2.
func TestExamples(t *testing.T) {
	hold(t, []good{{sketch.Of(0, sketch.Map("a b", 1, 1), sketch.Str("x")), "a: &a1 x\nb: *a1\n"}})
	rewrite(t, []way{
		{"a: &x 1\nb: *x\n", "a: &a1 1\nb: *a1\n"},
		{"- 1\n-\n  k: v\n", "- 1\n-\n  k: v\n"},
	})
}

// P14.1: the root.
func TestRoot(t *testing.T) {
	hold(t, []good{
		{sketch.Of(0, sketch.Str("x")), "x\n"},
		{sketch.Of(0, sketch.Str("")), "''\n"},
		{sketch.Of(0, sketch.Str("a b")), "'a b'\n"},
		{sketch.Of(0, sketch.Str("\t")), "\"\\t\"\n"},
		{sketch.Of(0, sketch.Str("true")), "'true'\n"},
		{sketch.Of(0, sketch.Scalar("null", "")), "null\n"},
		{sketch.Of(0, sketch.Scalar("bool", "true")), "true\n"},
		{sketch.Of(0, sketch.Scalar("int", "-5")), "-5\n"},
		{sketch.Of(0, sketch.Scalar("!t", "")), "!t ''\n"},
		{sketch.Of(0, sketch.Scalar("!t", "null")), "!t null\n"},
		{sketch.Of(0, sketch.Str("a\n b\n")), "|\n  a\n   b\n"},
		{sketch.Of(0, sketch.Str("a\nb")), "|-\n  a\n  b\n"},
		{sketch.Of(0, sketch.Str("a\n\n\n")), "|+\n  a\n\n\n"},
		{sketch.Of(0, sketch.Scalar("!t", "---\n\n# a\n")), "!t |\n  ---\n\n  # a\n"},
		{sketch.Of(0, sketch.Seq()), "[]\n"},
		{sketch.Of(0, sketch.Map("")), "{}\n"},
		{sketch.Of(0, sketch.Tagged("!t", sketch.Seq())), "!t []\n"},
		{sketch.Of(0, sketch.Tagged("!t", sketch.Map(""))), "!t {}\n"},
		{sketch.Of(0, sketch.Seq(1, 2), sketch.Str("x"), sketch.Str("y")), "- x\n- y\n"},
		{sketch.Of(0, sketch.Map("a", 1), sketch.Str("x")), "a: x\n"},
		{sketch.Of(0, sketch.Tagged("!t", sketch.Seq(1)), sketch.Str("x")), "!t\n- x\n"},
		{sketch.Of(0, sketch.Tagged("!t", sketch.Map("a", 1)), sketch.Str("x")), "!t\na: x\n"},
		{sketch.Of(0, sketch.Seq(0)), "&a1\n- *a1\n"},
		{sketch.Of(0, sketch.Map("b a", 0, 0)), "&a1\na: *a1\nb: *a1\n"},
		{sketch.Of(0, sketch.Tagged("!t", sketch.Seq(0))), "&a1 !t\n- *a1\n"},
		{sketch.Of(0, sketch.Tagged("!t", sketch.Map("a", 0))), "&a1 !t\na: *a1\n"},
	})
}

// P14.1: what stands behind a - or a colon.
func TestRows(t *testing.T) {
	rewrite(t, []way{
		// Without and with an own tag: scalars, empty collections, others.
		{"[x, 'x y', \"\\x00\"]", "- x\n- 'x y'\n- \"\\x00\"\n"},
		{"[~, null, true, 0, '0', '', !t '']", "- null\n- null\n- true\n- 0\n- '0'\n- ''\n- !t ''\n"},
		{"[[], {}, !t [], !t {}]", "- []\n- {}\n- !t []\n- !t {}\n"},
		{"{a: [], b: {}, c: !t [], d: !t {}}", "a: []\nb: {}\nc: !t []\nd: !t {}\n"},
		{"[[x], {k: x}, !t [x], !t {k: x}]", "-\n  - x\n-\n  k: x\n- !t\n  - x\n- !t\n  k: x\n"},
		{"{a: [x], b: {k: x}, c: !t [x], d: !t {k: x}}", "a:\n  - x\nb:\n  k: x\nc: !t\n  - x\nd: !t\n  k: x\n"},
		// Anchored.
		{"[&x y, &y !t y, *x, *y]", "- &a1 y\n- &a2 !t y\n- *a1\n- *a2\n"},
		{"[&x [], *x, &y !t {}, *y]", "- &a1 []\n- *a1\n- &a2 !t {}\n- *a2\n"},
		{"{a: &x [x], b: *x, c: &y !t {k: x}, d: *y}", "a: &a1\n  - x\nb: *a1\nc: &a2 !t\n  k: x\nd: *a2\n"},
		{"- &x |\n  a\n- *x\n- !t &x |-\n  b\n   c\n- *x\n", "- &a1 |\n  a\n- *a1\n- &a2 !t |-\n  b\n   c\n- *a2\n"},
		{"a: &x ~\nb: *x\nc: &y ''\nd: *y", "a: &a1 null\nb: *a1\nc: &a2 ''\nd: *a2\n"},
		// Rows within rows, and literals among these.
		{"[[[x], y], z]", "-\n  -\n    - x\n  - y\n- z\n"},
		{"{a: {b: {c: d}, e: f}, g: h}", "a:\n  b:\n    c: d\n  e: f\ng: h\n"},
		{"- - a: |\n     x\n\n     y\n- |+\n  z\n\n- c", "-\n  -\n    a: |\n      x\n\n      y\n- |+\n  z\n\n- c\n"},
		{"a:\n  b: !t |-\n    x\n    y\nc: |\n z", "a:\n  b: !t |-\n    x\n    y\nc: |\n  z\n"},
		{"- |+\n  a\n\n", "- |+\n  a\n\n"},
	})
}

// P14.1: keys, which rise, whatever the order of the entries.
func TestKeys(t *testing.T) {
	rewrite(t, []way{
		{"{b: 1, a: 2, c: 3}", "a: 2\nb: 1\nc: 3\n"},
		{"{a: , B: , '': , _: , ab: , 'a b': , a.b: , a/b: , a-b: , é: , 1: }", "'': null\n'1': null\nB: null\n_: null\na: null\n'a b': null\na-b: null\na.b: null\na/b: null\nab: null\n'é': null\n"},
		{"{true: 1, null: 2, ~: 3, '-': 4, 'a: b': 5, 'it''s': 6}", "'-': 4\n'a: b': 5\n'it''s': 6\nnull: 2\ntrue: 1\n'~': 3\n"},
		{"{\"a\\n\": 1, \"\\t\": [x], '#': {k: v}}", "\"\\t\":\n  - x\n'#':\n  k: v\n\"a\\n\": 1\n"},
		{"{\"\\uffff\": 1, \"\U00010000\": 2, \"\ue000\": 3, z: 4}", "z: 4\n'\ue000': 3\n\"\\uffff\": 1\n'\U00010000': 2\n"},
		// Names are given in the order of the keys, not of the entries or the nodes.
		{"{b: &x 1, c: *x, a: [&y 2, *y]}", "a:\n  - &a1 2\n  - *a1\nb: &a2 1\nc: *a2\n"},
		{"{b: &x {d: &y 1, c: *y}, a: *x}", "a: &a1\n  c: &a2 1\n  d: *a2\nb: *a1\n"},
	})
	long := strings.Repeat("é", 512)
	hold(t, []good{{sketch.Of(0, sketch.Keyed(long, 1), sketch.Scalar("null", "")), "'" + long + "': null\n"}})
}

// P14.1: what is anchored, and its names.
func TestAnchored(t *testing.T) {
	x := sketch.Str("x")
	hold(t, []good{
		{sketch.Of(0, sketch.Seq(1, 2), x, x), "- x\n- x\n"},
		{sketch.Of(0, sketch.Seq(1, 1, 1), x), "- &a1 x\n- *a1\n- *a1\n"},
		{sketch.Of(0, sketch.Seq(1, 2), sketch.Seq(2), x), "-\n  - &a1 x\n- *a1\n"},
		{sketch.Of(0, sketch.Seq(2, 1), sketch.Seq(2), x), "- &a1 x\n-\n  - *a1\n"},
		// Edges of nodes that aren't reached are of no account, nor are these.
		{sketch.Of(1, sketch.Seq(2, 2, 1), sketch.Seq(2), x), "- x\n"},
		{sketch.Of(2, sketch.Seq(2), sketch.Map("a", 2), sketch.Seq(3), x, sketch.Seq(3, 2)), "- x\n"},
		{sketch.Of(1, sketch.Seq(0), x), "x\n"},
		// A root to which an edge leads; one to which none does.
		{sketch.Of(1, sketch.Seq(1), sketch.Seq(0)), "&a1\n-\n  - *a1\n"},
		{sketch.Of(0, sketch.Seq(1), sketch.Seq(1)), "- &a1\n  - *a1\n"},
		{sketch.Of(0, sketch.Map("a b", 1, 0), sketch.Tagged("!t", sketch.Map("c d", 1, 0))), "&a1\na: &a2 !t\n  c: *a2\n  d: *a1\nb: *a1\n"},
		// Names in the order of the first visit, which isn't that of the aliases or of the numbers.
		{sketch.Of(4, x, sketch.Str("y"), sketch.Str("z"), sketch.Seq(2, 1), sketch.Seq(3, 0, 1, 2, 0, 3)), "- &a1\n  - &a2 z\n  - &a3 y\n- &a4 x\n- *a3\n- *a2\n- *a4\n- *a1\n"},
	})
	// A great many of them.
	g := sketch.Of(0, sketch.Seq())
	var want strings.Builder
	for i := 1; i < 4096; i++ {
		g.Nodes = append(g.Nodes, sketch.Scalar("null", ""))
		if i <= 1500 {
			g.Nodes[0].Kids = append(g.Nodes[0].Kids, i, i)
			fmt.Fprintf(&want, "- &a%d null\n- *a%d\n", i, i)
		}
	}
	hold(t, []good{{g, want.String()}})
}

// P14.1 and P14.2: several documents, each with names of its own.
func TestDocs(t *testing.T) {
	cases := []way{
		{"", ""},
		{"[a]", "- a\n"},
		{"---\n", "null\n"},
		{"---\n---\n", "---\nnull\n---\nnull\n"},
		{"a\n---\n[b]\n---\n{c: d}\n", "---\na\n---\n- b\n---\nc: d\n"},
		{"[&x a, *x]\n---\n&y [*y, &x b, *x]\n", "---\n- &a1 a\n- *a1\n---\n&a1\n- *a1\n- &a2 b\n- *a2\n"},
		{"|+\n a\n\n---\n!t [b]\n---\n[]\n---\n|-\n  c\n  d", "---\n|+\n  a\n\n---\n!t\n- b\n---\n[]\n---\n|-\n  c\n  d\n"},
	}
	for _, c := range cases {
		docs, f := load.Docs(c.s)
		if f.Bad() {
			t.Fatalf("%q: %v at %d", c.s, f, f.At)
		}
		if got := askedDocs(t, graphs(docs)); got != c.want {
			t.Errorf("%q: %q, not %q", c.s, got, c.want)
		}
	}
	if s, f := emit.Docs([]graph.Graph{}...); s != "" || f.Bad() {
		t.Error(s, f)
	}
}

// graphs are the graphs of documents.
func graphs(docs []load.Doc) []graph.Graph {
	l := make([]graph.Graph, len(docs))
	for i, d := range docs {
		l[i] = d.Graph
	}
	return l
}

// askedDocs is the text of several graphs, or the fault; what is loaded of it are the graphs, and each is as alone.
func askedDocs(t *testing.T, l []graph.Graph) string {
	t.Helper()
	s, f := emit.Docs(l...)
	if f.Bad() {
		return told(s, f)
	}
	docs, f := load.Docs(s)
	if f.Bad() || len(docs) != len(l) {
		t.Fatalf("%.300q: %d documents, not %d; %v at %d", s, len(docs), len(l), f, f.At)
	}
	var alone strings.Builder
	for i, d := range docs {
		if !iso.Same(d.Graph, l[i]) {
			t.Fatalf("%.300q: document %d isn't %v", s, i, l[i])
		}
		if len(l) > 1 {
			alone.WriteString("---\n")
		}
		alone.WriteString(told(emit.Graph(l[i])))
	}
	if alone.String() != s {
		t.Fatalf("%.300q: alone %.300q", s, alone.String())
	}
	if again, f := emit.Docs(graphs(docs)...); f.Bad() || again != s {
		t.Fatalf("%.300q: again %.300q, %v at %d", s, again, f, f.At)
	}
	return s
}
