package run_test

import (
	"testing"

	"stanhope/emit"
	"stanhope/load"
	"stanhope/run"
)

// script is the text of a type of sources and a lens, and of definitions behind these.
func script(source, lens string, defs ...string) string {
	s := "source: " + source + "\nlens: " + lens + "\n"
	for _, d := range defs {
		s += d
	}
	return s
}

// emitted is a text's only graph, as layer 14 writes it.
func emitted(t *testing.T, s string) string {
	t.Helper()
	d, f := load.One(s)
	w, e := emit.Graph(d.Graph)
	if f.Bad() || e.Bad() {
		t.Fatalf("%.200q: %v at %d, %v at %d", s, f, f.At, e, e.At)
	}
	return w
}

// of holds that nothing is wrong; it hands on what comes of a call.
func of(t *testing.T, what string) func(string, run.Fault) string {
	return func(s string, f run.Fault) string {
		t.Helper()
		if f != (run.Fault{}) {
			t.Fatalf("%s: part %d, %v at %d", what, f.Part, f, f.At)
		}
		return s
	}
}

// defs are definitions of which the rows' programs use some.
const defs = `types:
  tree: {union: [str, {list: tree}]}
  grown: {union: [{record: {k: str}}, {list: grown}]}
  rows: {keyed: {record: {k: str, v?: int}}, by: k}
  e: {enum: [a, b]}
lenses:
  grow: {source: tree, view: grown, lens: {union: [{plunge: k}, {items: {use: grow}}]}}
  name: {source: rows, view: {keyed: {record: {k: str}}, by: k}, lens: {keyed: {project: {keep: [k]}}}}
`

// rows are a lens each, with the types that Check tells; an old source with its own view, as that is
// written; a new view, and what comes of it, put into the old source, and alone.
var rows = []struct{ source, lens, from, to, old, own, view, put, made string }{
	{"str", "id", "str", "str", "x", "x\n", "'y'", "y\n", "y\n"},
	{"any", "copy", "any", "any", "&x [*x, 1]", "&a1\n- *a1\n- 1\n", "{a: &x y, b: *x}", "a: &a1 y\nb: *a1\n", "a: &a1 y\nb: *a1\n"},
	{"dag", "copy", "dag", "dag", "[&x y, *x]", "- &a1 y\n- *a1\n", "[]", "[]\n", "[]\n"},
	{"{list: str}", "{const: {view: 7, default: []}}", "[seq str]", "<int \"7\">", "[x, y]", "7\n", "7", "- x\n- y\n", "[]\n"},
	{"str", "{compose: [{plunge: a}, {plunge: b}, {rename: {b: c}}]}", "str", "{map c:{map a:str}}", "x", "c:\n  a: x\n", "c: {a: y}", "y\n", "y\n"},
	{"{record: {a: str, b: int, c?: any}, tag: '!m'}", "{project: {keep: [a], default: {b: 0}}}", "{!m a:str b:int c?:any}", "{!m a:str}",
		"!m {a: x, b: 1, c: &x [*x]}", "!m\na: x\n", "!m {a: y}", "!m\na: y\nb: 1\nc: &a1\n  - *a1\n", "!m\na: y\nb: 0\n"},
	{"{record: {a: str, b?: int}}", "{rename: {a: b, b: a}}", "{map a:str b?:int}", "{map a?:int b:str}", "{a: x, b: 1}", "a: 1\nb: x\n", "{b: y}", "a: y\n", "a: y\n"},
	{"{record: {a: {list: str}}, tag: '!m'}", "{hoist: a}", "{!m a:[seq str]}", "[seq str]", "!m {a: [x]}", "- x\n", "[y, z]", "!m\na:\n  - y\n  - z\n", "!m\na:\n  - y\n  - z\n"},
	// The document's example 4, and the chapter's.
	{"str", "{plunge: k}", "str", "{map k:str}", "x", "k: x\n", "k: y", "y\n", "y\n"},
	{"{list: str}", "{plunge: k}", "[seq str]", "{map k:[seq str]}", "- a\n", "k:\n  - a\n", "k: [a, b]\n", "- a\n- b\n", "- a\n- b\n"},
	{"{record: {a: {record: {b: str, c?: str}, tag: '!n'}, d: int}}", "{lift: a}", "{map a:{!n b:str c?:str} d:int}", "{map b:str c?:str d:int}",
		"{d: 1, a: !n {c: x, b: y}}", "b: y\nc: x\nd: 1\n", "{b: z, d: 2}", "a: !n\n  b: z\nd: 2\n", "a: !n\n  b: z\nd: 2\n"},
	{"{record: {a?: str, b: int}}", "{sink: {into: k, keys: [a]}}", "{map a?:str b:int}", "{map b:int k:{map a?:str}}", "{a: x, b: 1}", "b: 1\nk:\n  a: x\n", "{b: 2, k: {}}", "b: 2\n", "b: 2\n"},
	// The document's example 7; and 6.
	{"{list: {union: [str, int]}}", "{filter: [.int]}", "[seq (str|int)]", "[seq int]", "[a, 1, 2, b, 3]", "- 1\n- 2\n- 3\n", "[7, 8]", "- a\n- 7\n- 8\n- b\n", "- 7\n- 8\n"},
	{"{list: {union: [{enum: [1, 3]}, {enum: ['2', '4']}, 'null']}}", "{filter: [.str]}", "[seq (<int \"1\" \"3\">|<str \"2\" \"4\">|null)]", "[seq <str \"2\" \"4\">]",
		"[1, '2', 3, '4']", "- '2'\n- '4'\n", "['4', '4', '2']", "- 1\n- '4'\n- 3\n- '4'\n- '2'\n", "- '4'\n- '4'\n- '2'\n"},
	{"{record: {}, rest: {union: [str, int]}}", "{filter: [.int]}", "{map *:(str|int)}", "{map *:int}", "{a: 1, b: x, c: 2}", "a: 1\nc: 2\n", "{c: 3, d: 4}", "b: x\nc: 3\nd: 4\n", "c: 3\nd: 4\n"},
	{"{record: {}, rest: {record: {a: str, b?: any}}}", "{map: {project: {keep: [a]}}}", "{map *:{map a:str b?:any}}", "{map *:{map a:str}}",
		"{p: {a: x, b: &x []}, q: {a: y, b: *x}}", "p:\n  a: x\nq:\n  a: y\n", "{q: {a: z}, r: {a: w}}", "q:\n  a: z\n  b: []\nr:\n  a: w\n", "q:\n  a: z\nr:\n  a: w\n"},
	{"{list: {record: {a: str, b?: any}}}", "{items: {project: {keep: [a]}}}", "[seq {map a:str b?:any}]", "[seq {map a:str}]",
		"[{a: x, b: &x []}, {a: y, b: *x}]", "-\n  a: x\n-\n  a: y\n", "[{a: z}]", "-\n  a: z\n  b: []\n", "-\n  a: z\n"},
	{"rows", "{use: name}", "$rows", "[seq by k {map k:str}]", "[{k: x, v: 1}, {k: y, v: 2}]", "-\n  k: x\n-\n  k: y\n", "[{k: z}, {k: y}]", "-\n  k: z\n-\n  k: y\n  v: 2\n", "-\n  k: z\n-\n  k: y\n"},
	{"{record: {a: str, b?: {record: {k: str, v?: int}}}}", "{on: {b: {project: {keep: [k]}}}}", "{map a:str b?:{map k:str v?:int}}", "{map a:str b?:{map k:str}}",
		"{a: x, b: {k: y, v: 1}}", "a: x\nb:\n  k: y\n", "{a: z, b: {k: w}}", "a: z\nb:\n  k: w\n  v: 1\n", "a: z\nb:\n  k: w\n"},
	{"{union: [str, {list: str}]}", "{union: [{const: {view: 1, default: d}}, {items: {plunge: k}}]}", "(str|[seq str])", "(<int \"1\">|[seq {map k:str}])",
		"x", "1\n", "1", "x\n", "d\n"},
	{"{union: [str, {list: str}]}", "{union: [{const: {view: 1, default: d}}, {items: {plunge: k}}]}", "(str|[seq str])", "(<int \"1\">|[seq {map k:str}])",
		"[x]", "-\n  k: x\n", "1", "d\n", "d\n"},
	{"{record: {a?: int}}", "{fill: {key: a, value: 3}}", "{map a?:int}", "{map a:int}", "{}", "a: 3\n", "a: 3", "{}\n", "{}\n"},
	{"{record: {a?: int}}", "{fill: {key: a, value: 3}}", "{map a?:int}", "{map a:int}", "a: 4", "a: 4\n", "a: 3", "a: 3\n", "{}\n"},
	{"e", "{translate: {a: 'yes', b: 'true'}}", "$e", "<str \"true\" \"yes\">", "b", "'true'\n", "yes", "a\n", "a\n"},
	{"tree", "{use: grow}", "$tree", "$grown", "[x, [y, []]]", "-\n  k: x\n-\n  -\n    k: y\n  - []\n", "[[{k: x}], {k: y}]", "-\n  - x\n- y\n", "-\n  - x\n- y\n"},
	// The document's example 5, and the stage's.
	{"{record: {a: str, b?: str}}", "{project: {keep: [a]}}", "{map a:str b?:str}", "{map a:str}", "{a: x, b: z}", "a: x\n", "{a: y}", "a: y\nb: z\n", "a: y\n"},
	{"{record: {a: any, b?: any}}", "{project: {keep: [a]}}", "{map a:any b?:any}", "{map a:any}", "a: &x [1, 2]\nb: {k: *x, l: &y [*y]}\n", "a:\n  - 1\n  - 2\n",
		"a: 3", "a: 3\nb:\n  k:\n    - 1\n    - 2\n  l: &a1\n    - *a1\n", "a: 3\n"},
}

// P26.1: a lens of each kind.
func TestRows(t *testing.T) {
	for _, r := range rows {
		l := script(r.source, r.lens, defs)
		from, to, f := run.Check(l)
		if from != r.from || to != r.to || f != (run.Fault{}) {
			t.Errorf("%+v: %s, %s, part %d, %v at %d", r, from, to, f.Part, f, f.At)
			continue
		}
		hold := func(what, want string) func(string, run.Fault) {
			return func(s string, f run.Fault) {
				t.Helper()
				if got := of(t, what+" by "+r.lens)(s, f); got != want {
					t.Errorf("%s: %+v: %q", what, r, got)
				}
			}
		}
		hold("got", r.own)(run.Get(l, r.old))
		hold("put", r.put)(run.Put(l, r.view, r.old))
		hold("created", r.made)(run.Create(l, r.view))
		// P26.2: what comes of it shows the view; the own view changes nothing.
		hold("got of what is put", emitted(t, r.view))(run.Get(l, r.put))
		hold("got of what is created", emitted(t, r.view))(run.Get(l, r.made))
		hold("the own view put", emitted(t, r.old))(run.Put(l, r.own, r.old))
	}
}

// P26.1, P26.2: what a view has unchanged goes on sharing with what isn't shown; what it shares or
// parts is shared or parted.
func TestShared(t *testing.T) {
	const a = "{project: {keep: [a]}}"
	any, list := "{record: {a: any, b?: any}}", "{record: {a: {list: any}, b?: any}}"
	for _, c := range []struct{ of, lens, source, view, want string }{
		// The document's example 9.
		{any, a, "a: &x {k: 1}\nb: *x\n", "a: {k: 1}\n", "a: &a1\n  k: 1\nb: *a1\n"},
		{any, a, "a: &x {k: 1}\nb: *x\n", "a: {k: 2}\n", "a:\n  k: 2\nb:\n  k: 1\n"},
		{any, a, "a: [&x y]\nb: *x\n", "a: [y]\n", "a:\n  - &a1 y\nb: *a1\n"},
		{any, a, "a: [&x y, z]\nb: *x\n", "a: [y, w]\n", "a:\n  - y\n  - w\nb: y\n"},
		// However the view is written, whatever its numbers.
		{any, a, "a: {p: &x [], q: &y {}}\nb: [*y, *x]\n", "a: {q: {}, p: []}\n", "a:\n  p: &a1 []\n  q: &a2 {}\nb:\n  - *a2\n  - *a1\n"},
		// Item by item.
		{list, a, "a: [&x y, &z w]\nb: [*x, *z]\n", "a: [y, v]\n", "a:\n  - &a1 y\n  - v\nb:\n  - *a1\n  - w\n"},
		{list, a, "a: [&x y, &z w]\nb: [*x, *z]\n", "a: [w, y]\n", "a:\n  - w\n  - y\nb:\n  - y\n  - w\n"},
		{list, a, "a: [&x y, *x]\nb: *x\n", "a: [y, y]\n", "a:\n  - &a1 y\n  - y\nb: *a1\n"},
		{list, a, "a: [y, &x y]\nb: *x\n", "a: [&x y, *x]\n", "a:\n  - &a1 y\n  - *a1\nb: y\n"},
		// By the places of the view, wherever they are in the source.
		{any, "{compose: [" + a + ", {hoist: a}, {plunge: k}, {plunge: b}]}", "a: &x y\nb: *x\n", "b: {k: y}\n", "a: &a1 y\nb: *a1\n"},
		{"{record: {a: any, b: any, c?: any}}", "{compose: [{project: {keep: [a, b]}}, {rename: {a: b, b: a}}]}", "a: &x p\nb: &y q\nc: [*x, *y]\n", "a: q\nb: r\n", "a: r\nb: &a1 q\nc:\n  - p\n  - *a1\n"},
		{"{list: {union: [str, {record: {v: any}}]}}", "{filter: ['{map']}", "[x, {v: &y [z]}, {v: *y}]\n", "[{v: [z]}, {v: [z]}]\n", "- x\n-\n  v:\n    - z\n-\n  v:\n    - z\n"},
		{"{record: {a: {record: {}, rest: {union: [int, {list: any}]}}, b?: any}}", "{compose: [{project: {keep: [a]}}, {hoist: a}, {filter: ['[seq']}]}", "a: {p: 1, q: [&x y], r: [*x]}\nb: *x\n", "{q: [y], s: []}\n", "a:\n  p: 1\n  q:\n    - &a1 y\n  s: []\nb: *a1\n"},
		// By keys, in whatever order.
		{"{record: {a: {keyed: {record: {k: str, v: any}}, by: k}, b?: any}}", a, "a: [{k: m, v: &x y}, {k: n, v: &z w}]\nb: [*x, *z]\n", "a: [{k: n, v: w}, {k: l, v: y}, {k: m, v: y}]\n",
			"a:\n  -\n    k: n\n    v: &a1 w\n  -\n    k: l\n    v: y\n  -\n    k: m\n    v: &a2 y\nb:\n  - *a2\n  - *a1\n"},
		// What isn't shown is shared among itself.
		{"{record: {a: int, b: {list: dag}}}", "{compose: [{project: {keep: [a], default: {b: []}}}, {hoist: a}]}", "a: 1\nb: [&x [], {k: *x}, *x]\n", "2\n", "a: 2\nb:\n  - &a1 []\n  -\n    k: *a1\n  - *a1\n"},
		// Cycles.
		{any, a, "a: &x [*x, y]\nb: [*x]\n", "a: &x [*x, y]\n", "a: &a1\n  - *a1\n  - y\nb:\n  - *a1\n"},
		{any, a, "a: &x [*x, y]\nb: [*x]\n", "a: [&x [*x, y], y]\n", "a:\n  - &a1\n    - *a1\n    - y\n  - y\nb:\n  - &a2\n    - *a2\n    - y\n"},
		{any, a, "a: y\nb: &x [*x, &y {k: *y}]\n", "a: &x {k: *x}\n", "a: &a1\n  k: *a1\nb: &a2\n  - *a2\n  - &a3\n    k: *a3\n"},
		// The document's example 8.
		{"any", "id", "&x {b: *x, a: [&y z, *y]}\n", "&x [*x]\n", "&a1\n- *a1\n"},
	} {
		l := script(c.of, c.lens)
		if got := of(t, c.source)(run.Put(l, c.view, c.source)); got != c.want {
			t.Errorf("%+v: %s", c, got)
		}
		own := of(t, c.source)(run.Get(l, c.source))
		if got := of(t, own)(run.Put(l, own, c.source)); got != emitted(t, c.source) {
			t.Errorf("%+v: %s put: %s", c, own, got)
		}
	}
}

// W4: how texts are written is of no account.
func TestWritten(t *testing.T) {
	lenses := []string{
		"source: {record: {a: any, b?: any}}\nlens: {project: {keep: [a]}}\n",
		"# a lens\n---\nlens:\n  project:\n    keep:\n      - a\n      - 'a'\ntypes: {t: &t any}\nsource:\n  record:\n    b?: *t\n    a: *t\n",
		"---\n\"lens\": {'project': {keep: [\"a\"], default: {}}}\nsource: {tag: map, record: {b?: any, a: any}}",
	}
	sources := []string{"a: &x [1, ~]\nb: *x\n", "{b: &x [1, null], a: *x}", "---\n\n'b':   &n\n  -   1\n  -\n# x\n\"a\": *n"}
	views := []string{"a: [1, x]", "a:\n - 1\n - 'x'\n", "# y\n---\n  a:\n    - 1\n    - \"\\x78\"\n\n"}
	for _, l := range lenses {
		if from, to, f := run.Check(l); from != "{map a:any b?:any}" || to != "{map a:any}" || f != (run.Fault{}) {
			t.Errorf("%s: %s, %s, %v", l, from, to, f)
		}
		for _, s := range sources {
			if got := of(t, s)(run.Get(l, s)); got != "a:\n  - 1\n  - null\n" {
				t.Errorf("%q by %q: %q", s, l, got)
			}
			for _, w := range views {
				if got := of(t, w)(run.Put(l, w, s)); got != "a:\n  - 1\n  - x\nb:\n  - 1\n  - null\n" {
					t.Errorf("%q into %q by %q: %q", w, s, l, got)
				}
				if got := of(t, w)(run.Create(l, w)); got != "a:\n  - 1\n  - x\n" {
					t.Errorf("%q by %q: %q", w, l, got)
				}
			}
		}
	}
}
