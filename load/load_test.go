package load_test

import (
	"fmt"
	"slices"
	"strconv"
	"strings"
	"testing"

	"stanhope/api"
	"stanhope/graph"
	"stanhope/load"
)

// told is documents' graphs as the tests write them: of each node its place, its tag, and its
// text in marks, its items between [ and ], or its entries between { and }; a ; between nodes,
// a / between documents, a > and its number ahead of a root that isn't 0; or the fault.
func told(docs []load.Doc, f api.Fault) string {
	if f != (api.Fault{}) {
		return fmt.Sprintf("%v at %d, %d documents", f, f.At, len(docs))
	}
	all := make([]string, len(docs))
	for i, d := range docs {
		all[i] = tellDoc(d)
	}
	return strings.Join(all, " / ")
}

// tellDoc is a document's graph as told writes it.
func tellDoc(d load.Doc) string {
	if len(d.At) != len(d.Nodes) {
		return fmt.Sprintf("%d nodes, %d places", len(d.Nodes), len(d.At))
	}
	parts := make([]string, len(d.Nodes))
	for i, n := range d.Nodes {
		parts[i] = strconv.Itoa(d.At[i]) + " " + n.Tag + inside(n)
	}
	s := strings.Join(parts, "; ")
	if d.Root != 0 {
		s = fmt.Sprintf("> %d %s", d.Root, s)
	}
	return s
}

// inside is what a node has beside its tag.
func inside(n graph.Node) string {
	kids := make([]string, len(n.Kids))
	for i, k := range n.Kids {
		kids[i] = strconv.Itoa(k)
		if i < len(n.Keys) {
			kids[i] = n.Keys[i] + ":" + kids[i]
		}
	}
	all := strings.Join(kids, " ")
	switch {
	case n.Kind == graph.Scalar && len(n.Keys)+len(n.Kids) == 0:
		return "'" + n.Text + "'"
	case n.Kind == graph.Seq && n.Text == "" && len(n.Keys) == 0:
		return "[" + all + "]"
	case n.Kind == graph.Map && n.Text == "" && len(n.Keys) == len(n.Kids):
		return "{" + all + "}"
	}
	return fmt.Sprintf("%#v", n)
}

// asked is what a text's documents are, as told writes it.
func asked(s string) string { return told(load.Docs(s)) }

// askedOne is what a text's only document is, as told writes it.
func askedOne(s string) string {
	d, f := load.One(s)
	if f.Bad() {
		if len(d.Nodes) > 0 || d.Root != 0 || len(d.At) > 0 {
			return "a document beside a fault: " + tellDoc(d)
		}
		return told(nil, f)
	}
	return told([]load.Doc{d}, f)
}

// wrong is an error as told writes it.
func wrong(e api.Errno, at int) string { return fmt.Sprintf("%v at %d, 0 documents", e, at) }

// a is a text of that many bytes.
func a(n int) string { return strings.Repeat("a", n) }

type good struct{ s, want string }

// hold holds what Docs says of texts, and what One says of them.
func hold(t *testing.T, cases []good) {
	t.Helper()
	for _, c := range cases {
		if got := asked(c.s); got != c.want {
			t.Errorf("%.60q: %.300s, not %.300s", c.s, got, c.want)
		}
		docs, _ := load.Docs(c.s)
		for i, d := range docs {
			whole(t, c.s, d)
			if got := told([]load.Doc{d}, api.Fault{}); len(docs) == 1 && got != askedOne(c.s) {
				t.Errorf("%.60q, %d: One %.300s, Docs %.300s", c.s, i, askedOne(c.s), got)
			}
		}
	}
}

// whole checks P12.2 of a document of a text.
func whole(t *testing.T, s string, d load.Doc) {
	t.Helper()
	if f := d.Check(); f.Bad() {
		t.Fatalf("%.200q: %v at %d", s, f, f.At)
	}
	if n := len(d.Reach(d.Root)); n != len(d.Nodes) {
		t.Fatalf("%.200q: %d of %d nodes are reached", s, n, len(d.Nodes))
	}
	if len(d.At) != len(d.Nodes) || !slices.IsSorted(d.At) || d.At[0] < 0 || slices.Max(d.At) > len(s) {
		t.Fatalf("%.200q: %d places of %d nodes: %.300v", s, len(d.At), len(d.Nodes), d.At)
	}
	// Nodes are numbered, and entries stand, in the order of the text: so whoever visits what the
	// entries lead to as they stand comes by all numbers in turn.
	met := 0
	visit(d, d.Root, &met)
	if met != len(d.Nodes) {
		t.Fatalf("%.200q: out of turn behind node %d: %.300s", s, met, tellDoc(d))
	}
}

// visit visits node after node, as long as each that is new has the next number.
func visit(d load.Doc, n int, met *int) {
	if n != *met {
		return
	}
	*met++
	for _, k := range d.Nodes[n].Kids {
		visit(d, k, met)
	}
}

// The chapter's example 1, and the whole's.
func TestExample(t *testing.T) {
	hold(t, []good{{"a: &x 1\nb: *x\n", "0 map{a:1 b:1}; 3 int'1'"}})
	d, f := load.One("a: &x 1\nb: *x\n")
	if f.Bad() || len(d.Nodes) != 2 || len(d.Graph.Nodes) != 2 || !slices.Equal(d.At, []int{0, 3}) || !slices.Equal(d.In(), []int{1, 2}) {
		t.Error(d, f)
	}
}

// P12.1: tags and texts of scalars.
func TestScalars(t *testing.T) {
	hold(t, []good{
		// Plain, without a tag.
		{"~", "0 null''"},
		{"null", "0 null''"},
		{"---", "3 null''"},
		{"-", "0 seq[1]; 0 null''"},
		{"a:", "0 map{a:1}; 0 null''"},
		{"{a:}", "0 map{a:1}; 1 null''"},
		{"true", "0 bool'true'"},
		{"false", "0 bool'false'"},
		{"0", "0 int'0'"},
		{" -1", "1 int'-1'"},
		{"999999999999999999", "0 int'999999999999999999'"},
		{"1000000000000000000", "0 str'1000000000000000000'"},
		{"01", "0 str'01'"},
		{"-0", "0 str'-0'"},
		{"1.5", "0 str'1.5'"},
		{"True", "0 str'True'"},
		{"Null", "0 str'Null'"},
		{"a b # c", "0 str'a b'"},
		{"é€", "0 str'é€'"},
		{a(1024), "0 str'" + a(1024) + "'"},
		// An anchor is no tag.
		{"&x", "0 null''"},
		{"&x 5", "0 int'5'"},
		{"&x true", "0 bool'true'"},
		{"&x '5'", "0 str'5'"},
		// Not Plain, without a tag.
		{"''", "0 str''"},
		{`""`, "0 str''"},
		{"'~'", "0 str'~'"},
		{`"null"`, "0 str'null'"},
		{"'true'", "0 str'true'"},
		{`"0"`, "0 str'0'"},
		{`"\x31\n\0x30"`, wrong(api.ErrEscape, 7)},
		{`"\x31"`, "0 str'1'"},
		{`"a\n\u0000"`, "0 str'a\n\x00'"},
		{"|-\n 1", "0 str'1'"},
		{"|-\n null", "0 str'null'"},
		{"|", "0 str''"},
		{"- |\n  true\n- true", "0 seq[1 2]; 2 str'true\n'; 13 bool'true'"},
		{"['1', 1, \"1\"]", "0 seq[1 2 3]; 1 str'1'; 6 int'1'; 9 str'1'"},
		{"'" + a(1024) + "'", "0 str'" + a(1024) + "'"},
		// With a tag, whatever the text is.
		{"!t", "0 !t''"},
		{"!t ~", "0 !t'~'"},
		{"!t null", "0 !t'null'"},
		{"!t true", "0 !t'true'"},
		{"!t 5", "0 !t'5'"},
		{"!t '5'", "0 !t'5'"},
		{"!t ''", "0 !t''"},
		{"!t |\n 5\n", "0 !t'5\n'"},
		{"!null null", "0 !null'null'"},
		{"!str 5", "0 !str'5'"},
		{"!int 'a'", "0 !int'a'"},
		{"!seq a", "0 !seq'a'"},
		{"!map &x", "0 !map''"},
		{"&x !t 5", "0 !t'5'"},
		{"!t &x 5", "0 !t'5'"},
		{"!" + a(32) + " b", "0 !" + a(32) + "'b'"},
	})
}

// P12.1: sequences and mappings.
func TestCollections(t *testing.T) {
	hold(t, []good{
		{"[]", "0 seq[]"},
		{"{}", "0 map{}"},
		{"!t []", "0 !t[]"},
		{"!t {}", "0 !t{}"},
		{"&x !seq {}", "0 !seq{}"},
		{"!map &x []", "0 !map[]"},
		{"!str [a]", "0 !str[1]; 6 str'a'"},
		{"!t\n- a", "0 !t[1]; 5 str'a'"},
		{"!t\na: b", "0 !t{a:1}; 6 str'b'"},
		{"- a\n- b\n- a", "0 seq[1 2 3]; 2 str'a'; 6 str'b'; 10 str'a'"},
		{"- - a\n  - b\n- - c", "0 seq[1 4]; 2 seq[2 3]; 4 str'a'; 10 str'b'; 14 seq[5]; 16 str'c'"},
		{"[[], [[]], {}]", "0 seq[1 2 4]; 1 seq[]; 5 seq[3]; 6 seq[]; 11 map{}"},
		{"[a, [b, c], d]", "0 seq[1 2 5]; 1 str'a'; 4 seq[3 4]; 5 str'b'; 8 str'c'; 12 str'd'"},
		{"- a: b\n  c: d\n- e", "0 seq[1 4]; 2 map{a:2 c:3}; 5 str'b'; 12 str'd'; 16 str'e'"},
		{"a:\n  b: c\nd: e", "0 map{a:1 d:3}; 5 map{b:2}; 8 str'c'; 13 str'e'"},
		{"a: {b: {c: d}, e: f}\ng: h", "0 map{a:1 g:5}; 3 map{b:2 e:4}; 7 map{c:3}; 11 str'd'; 18 str'f'; 24 str'h'"},
		// Entries stand in the order of the text.
		{"b: 1\na: 2\nc: 3\nB: 4", "0 map{b:1 a:2 c:3 B:4}; 3 int'1'; 8 int'2'; 13 int'3'; 18 int'4'"},
		{"{z: , y: [], x: a}", "0 map{z:1 y:2 x:3}; 1 null''; 9 seq[]; 16 str'a'"},
		// A key is its text, whatever it looks like.
		{"{null: , '': , ~: , true: , 1: , '-1': }", "0 map{null:1 :2 ~:3 true:4 1:5 -1:6}; 1 null''; 9 null''; 15 null''; 20 null''; 28 null''; 33 null''"},
		{"\"\\x41\": 1\na: 2", "0 map{A:1 a:2}; 8 int'1'; 13 int'2'"},
		{"a: 1\n'a ': 2\n\"a\\n\": 3", "0 map{a:1 a :2 a\n:3}; 3 int'1'; 11 int'2'; 20 int'3'"},
		{a(1024) + ": b", "0 map{" + a(1024) + ":1}; 1026 str'b'"},
		// One key in several mappings.
		{"a: {a: {a: b}}", "0 map{a:1}; 3 map{a:2}; 7 map{a:3}; 11 str'b'"},
		{"- a: 1\n- a: 2", "0 seq[1 3]; 2 map{a:2}; 5 int'1'; 9 map{a:4}; 12 int'2'"},
		{"a:\n  a: 1\n  b: 2\nb:\n  a: 3", "0 map{a:1 b:4}; 5 map{a:2 b:3}; 8 int'1'; 15 int'2'; 22 map{a:5}; 25 int'3'"},
		// Places: of an anchor or a tag, whichever is first.
		{"a: &x !t [b]", "0 map{a:1}; 3 !t[2]; 10 str'b'"},
		{"a: !t  &x 'b'", "0 map{a:1}; 3 !t'b'"},
		{"- &x\n  a: b", "0 seq[1]; 2 map{a:2}; 10 str'b'"},
		{"-\n  a: b", "0 seq[1]; 4 map{a:2}; 7 str'b'"},
		{"\n # b\n  a:\n   - c\n", "8 map{a:1}; 14 seq[2]; 16 str'c'"},
	})
}

// P12.1: aliases are the node of the last anchor of that name ahead of them.
func TestAliases(t *testing.T) {
	hold(t, []good{
		{"[&x a, *x]", "0 seq[1 1]; 1 str'a'"},
		{"[&x a, b, *x, c, *x]", "0 seq[1 2 1 3 1]; 1 str'a'; 7 str'b'; 14 str'c'"},
		{"- &x\n- *x", "0 seq[1 1]; 2 null''"},
		{"- &x\n  - a\n- *x", "0 seq[1 1]; 2 seq[2]; 9 str'a'"},
		{"- &x !t []\n- *x\n- *x", "0 seq[1 1 1]; 2 !t[]"},
		{"a: &x {b: c}\nd: *x", "0 map{a:1 d:1}; 3 map{b:2}; 10 str'c'"},
		{"a: &x |\n  b\nc: *x", "0 map{a:1 c:1}; 3 str'b\n'"},
		{"[&x a, &y b, *y, *x]", "0 seq[1 2 2 1]; 1 str'a'; 7 str'b'"},
		{"[&x a, [*x], {b: *x}]", "0 seq[1 2 3]; 1 str'a'; 7 seq[1]; 13 map{b:1}"},
		{"[[&x a], *x]", "0 seq[1 2]; 1 seq[2]; 2 str'a'"},
		{"{a: {b: &x c}, d: *x}", "0 map{a:1 d:2}; 4 map{b:2}; 8 str'c'"},
		// Names are told apart byte by byte.
		{"[&x a, &X b, &x- c, *X, *x, *x-]", "0 seq[1 2 3 2 1 3]; 1 str'a'; 7 str'b'; 13 str'c'"},
		{"[&0 a, &00 b, *0, *00]", "0 seq[1 2 1 2]; 1 str'a'; 7 str'b'"},
		{"[&" + a(32) + " b, *" + a(32) + "]", "0 seq[1 1]; 1 str'b'"},
		// The last anchor of a name.
		{"[&x a, *x, &x b, *x]", "0 seq[1 1 2 2]; 1 str'a'; 11 str'b'"},
		{"[&x a, &x b, *x, *x]", "0 seq[1 2 2 2]; 1 str'a'; 7 str'b'"},
		{"[&x a, [&x b], *x]", "0 seq[1 2 3]; 1 str'a'; 7 seq[3]; 8 str'b'"},
		{"&x [&x a, *x]", "0 seq[1 1]; 4 str'a'"},
		{"&x [*x, &x [*x], *x]", "0 seq[0 1 1]; 8 seq[1]"},
		{"[&x [&x [a]], *x]", "0 seq[1 2]; 1 seq[2]; 5 seq[3]; 9 str'a'"},
		{"a: &x 1\nb: *x\nc: &x 2\nd: *x", "0 map{a:1 b:1 c:2 d:2}; 3 int'1'; 17 int'2'"},
		// One that it stands within.
		{"&x [*x]", "0 seq[0]"},
		{"&x {a: *x, b: *x}", "0 map{a:0 b:0}"},
		{"&x\n- *x", "0 seq[0]"},
		{"&x !t\na: *x", "0 !t{a:0}"},
		{"---\n&x\n- &y\n  - *x\n  - *y\n- *y", "4 seq[1 1]; 9 seq[0 1]"},
		{"&r\na: &x [*r, *x, {b: *x}]\nc: *r", "0 map{a:1 c:0}; 6 seq[0 1 2]; 18 map{b:1}"},
		// A key is no name, nor is a tag or a text.
		{"[&x x, &y '*x', !x 'x', *x, *y]", "0 seq[1 2 3 1 2]; 1 str'x'; 7 str'*x'; 16 !x'x'"},
	})
}

// P12.1: several documents, each with numbers and names of its own.
func TestDocuments(t *testing.T) {
	hold(t, []good{
		{"", ""},
		{"\n# a\n", ""},
		{"---", "3 null''"},
		{"---\n---\na\n", "3 null'' / 8 str'a'"},
		{"a\n---\nb", "0 str'a' / 6 str'b'"},
		{"- a\n---\n- b\n- c\n---\nd: e", "0 seq[1]; 2 str'a' / 8 seq[1 2]; 10 str'b'; 14 str'c' / 20 map{d:1}; 23 str'e'"},
		{"[&x a, *x]\n---\n[&x b, *x]", "0 seq[1 1]; 1 str'a' / 15 seq[1 1]; 16 str'b'"},
		{"a: 1\n---\na: 2", "0 map{a:1}; 3 int'1' / 9 map{a:1}; 12 int'2'"},
		{"{a: {a: }}\n---\n{b: , a: }", "0 map{a:1}; 4 map{a:2}; 5 null'' / 15 map{b:1 a:2}; 16 null''; 21 null''"},
	})
	many := strings.Repeat("---\n[&x a, *x]\n", 16)
	docs, f := load.Docs(many)
	if f.Bad() || len(docs) != 16 {
		t.Fatal(told(docs, f))
	}
	for i, d := range docs {
		if want := fmt.Sprintf("%d seq[1 1]; %d str'a'", 15*i+4, 15*i+5); tellDoc(d) != want {
			t.Errorf("%s, not %s", tellDoc(d), want)
		}
	}
}

// P12.2: what is promoted, the graph's calls, are those of the document.
func TestPromoted(t *testing.T) {
	d, f := load.One("b: &x [c]\na: *x\nd: ~")
	if f.Bad() {
		t.Fatal(f)
	}
	if !slices.Equal(d.Edges(0), []int{1, 1, 3}) || !slices.Equal(d.Reach(0), []int{0, 1, 2, 3}) || d.Cyclic(0) {
		t.Error(d.Edges(0), d.Reach(0), d.Cyclic(0))
	}
	if !slices.Equal(d.In(), []int{1, 2, 1, 1}) || len(d.Trim().Nodes) != 4 || d.Check().Bad() {
		t.Error(d.In(), d.Trim(), d.Check())
	}
	if d, f = load.One("&x [*x]"); f.Bad() || !d.Cyclic(0) {
		t.Error(d, f)
	}
}
