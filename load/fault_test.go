package load_test

import (
	"fmt"
	"strings"
	"testing"

	"stanhope/api"
	"stanhope/load"
)

type bad struct {
	s  string
	e  api.Errno
	at int
}

// refuse holds the errors of texts: those of Docs are those of One.
func refuse(t *testing.T, cases []bad) {
	t.Helper()
	for _, c := range cases {
		want := wrong(c.e, c.at)
		if got := asked(c.s); got != want {
			t.Errorf("%.60q: %.300s, not %s", c.s, got, want)
		}
		if got := askedOne(c.s); got != want {
			t.Errorf("%.60q: One: %.300s, not %s", c.s, got, want)
		}
	}
}

// P12.1: ErrTwice at a Key that its Map has already.
func TestTwice(t *testing.T) {
	refuse(t, []bad{
		{"a: 1\na: 2\n", api.ErrTwice, 5},
		{"a:\na:\n", api.ErrTwice, 3},
		{"a: 1\nb: 2\nc: 3\nb: 4\na: 5", api.ErrTwice, 15},
		{"{a: b, a: b}", api.ErrTwice, 7},
		{"{a:,a:}", api.ErrTwice, 4},
		{"- a: 1\n  a: 2", api.ErrTwice, 9},
		{"a:\n  b: 1\n  b: 2\n", api.ErrTwice, 12},
		{"a:\n  a: 1\na: 2\n", api.ErrTwice, 10},
		{"a: {b: {a: }}\na: 2\n", api.ErrTwice, 14},
		{"{a: {a: 1}, b: {a: 1, b: 1, a: 1}}", api.ErrTwice, 28},
		{"a: &x {b: c}\nd: *x\na: *x", api.ErrTwice, 19},
		// However it is written.
		{"a: 1\n'a': 2", api.ErrTwice, 5},
		{"\"\\x61\": 1\na : 2", api.ErrTwice, 10},
		{"'a': 1\n  # c\n\n\"a\": 2", api.ErrTwice, 14},
		{"'': 1\n\"\": 2", api.ErrTwice, 6},
		{"'it''s': 1\n\"it's\": 2", api.ErrTwice, 11},
		{"é: 1\n\"\\xe9\": 2", api.ErrTwice, 6},
		{a(1024) + ": 1\n" + a(1024) + ": 2", api.ErrTwice, 1028},
		// In a later document.
		{"a: 1\n---\na: 1\na: 2", api.ErrTwice, 14},
		{"---\n---\n{a: , a: }", api.ErrTwice, 14},
	})
}

// P12.1: ErrAnchor at an Alias of which no anchor stands ahead in its document.
func TestAnchor(t *testing.T) {
	refuse(t, []bad{
		{"*x", api.ErrAnchor, 0},
		{"  *x # &x", api.ErrAnchor, 2},
		{"---\n*x\n", api.ErrAnchor, 4},
		{"a: *x\n", api.ErrAnchor, 3},
		{"- *x", api.ErrAnchor, 2},
		{"[a, *x]", api.ErrAnchor, 4},
		{"[*x, &x a]", api.ErrAnchor, 1},
		{"[[*x], &x a]", api.ErrAnchor, 2},
		{"a: *x\nb: &x 1\nc: *x", api.ErrAnchor, 3},
		{"[&x a, *x, *y]", api.ErrAnchor, 11},
		{"[&x a, *X]", api.ErrAnchor, 7},
		{"[&x a, *xx]", api.ErrAnchor, 7},
		{"[&xx a, *x]", api.ErrAnchor, 8},
		{"[x, !x y, '&x', *x]", api.ErrAnchor, 16},
		{"{x: *x}", api.ErrAnchor, 4},
		{"a: |\n  &x b\nc: *x\n", api.ErrAnchor, 15},
		// The anchors of other documents are of no account.
		{"&x a\n---\n*x", api.ErrAnchor, 9},
		{"&x a\n---\n---\n- *x\n- &x b", api.ErrAnchor, 15},
		{"[&x a, *x]\n---\n[&y a, *y, *x]\n---\n&x a", api.ErrAnchor, 26},
	})
}

// P12.1: layer 8's errors, ahead of all others.
func TestBelow(t *testing.T) {
	refuse(t, []bad{
		{a(65537), api.ErrSize, 65536},
		{"*x\n\x00", api.ErrByte, 3},
		{"\xff", api.ErrByte, 0},
		{"a: *x\nb: 'c", api.ErrSyntax, 11},
		{"a: *x\n b: c", api.ErrIndent, 7},
		{"a: 1\na: \"\\q\"", api.ErrEscape, 9},
		{"{a: 1, a: 2, b}", api.ErrSyntax, 14},
		{"*x\n---\n[", api.ErrSyntax, 8},
		{"a: 1\na: 2\n---\n- a\n  - b", api.ErrIndent, 20},
		{"*x\n---\n|\n " + a(1024), api.ErrScalar, 7},
		{"[*x, " + a(1025) + "]", api.ErrScalar, 5},
		{"- *x\n- " + strings.Repeat("[", 64) + strings.Repeat("]", 64), api.ErrDeep, 70},
		{"*x\n" + strings.Repeat("---\n", 16), api.ErrMany, 63},
		{"[" + strings.Repeat("a,", 5000), api.ErrSyntax, 10001},
		{"[" + strings.Repeat("a,", 5000) + "]\n---\n'", api.ErrSyntax, 10008},
	})
}

// P12.1: the first error, document by document, event by event.
func TestOrder(t *testing.T) {
	refuse(t, []bad{
		{"a: 1\na: *x", api.ErrTwice, 5},
		{"a: *x\na: 1", api.ErrAnchor, 3},
		{"b: 1\na: {c: , c: *x}\na: 1", api.ErrTwice, 14},
		{"[*x, *y]", api.ErrAnchor, 1},
		{"[*y, *x]", api.ErrAnchor, 1},
		{"{b: , a: , a: , b: }", api.ErrTwice, 11},
		{"a\n---\n*x\n---\na: \na: ", api.ErrAnchor, 6},
		{"a: \na: \n---\n*x", api.ErrTwice, 4},
		{"*x\n---\n{a: , a: }", api.ErrAnchor, 0},
	})
}

// manyNodes are documents of n nodes, in a way of writing: the text, and where the last one stands.
type manyNodes struct {
	name string
	text func(n int) (string, int)
}

// rows writes a head, then n rows of a body, then a foot; the last node stands some bytes behind
// where its row begins.
func rows(head, body, foot string, behind int) func(int) (string, int) {
	return func(n int) (string, int) {
		n--
		return head + strings.Repeat(body, n) + foot, len(head) + (n-1)*len(body) + behind
	}
}

// keyed writes a mapping with as many entries as are needed for n nodes.
func keyed(open, close, behind string, place int) func(int) (string, int) {
	return func(n int) (string, int) {
		var b strings.Builder
		b.WriteString(open)
		last := 0
		for i := range n - 1 {
			last = b.Len() + place
			fmt.Fprintf(&b, "k%04d:%s", i, behind)
		}
		b.WriteString(close)
		return b.String(), last
	}
}

// P12.1: as many nodes as a document has at most, and one more.
func TestNodes(t *testing.T) {
	ways := []manyNodes{
		{"items of a row", rows("[", "a,", "]", 0)},
		{"named items of a row", rows("[", "&x !t a,", "]", 0)},
		{"empty items", rows("", "-\n", "", 0)},
		{"named empty items", rows("", "- !t\n", "", 2)},
		{"items of rows", rows("", "- 'a'\n", "", 2)},
		{"sequences", rows("[", "[],", "]", 0)},
		{"mappings", rows("", "-  {}\n", "", 3)},
		{"aliases between", rows("&r [", "*r,&x a,*x,", "]", 3)},
		{"literals", rows("", "- |\n  a\n", "", 2)},
		{"entries", keyed("", "", " 1\n", 7)},
		{"empty entries", keyed("", "", "\n", 0)},
		{"entries of a row", keyed("{", "}", ",", 0)},
		{"named entries", keyed("!t\n", "", " &x 'b' \n", 7)},
		{"behind documents", rows("a: b\n---\n- b\n---\n", "- a\n", "", 2)},
		{"ahead of documents", rows("", "- a\n", "---\n---\n- b\n", 2)},
	}
	for _, w := range ways {
		s, last := w.text(4096)
		docs, f := load.Docs(s)
		if f.Bad() {
			t.Errorf("%s: %s", w.name, told(docs, f))
			continue
		}
		d := docs[0]
		for _, o := range docs {
			if len(o.Nodes) > len(d.Nodes) {
				d = o
			}
		}
		whole(t, s, d)
		if len(d.Nodes) != 4096 || d.At[4095] != last {
			t.Errorf("%s: %d nodes, the last one at %d, not at %d", w.name, len(d.Nodes), d.At[len(d.At)-1], last)
		}
		for _, n := range []int{4097, 4098, 4200} {
			s, _ := w.text(n)
			_, at := w.text(4097)
			if got, want := asked(s), wrong(api.ErrNodes, at); got != want {
				t.Errorf("%s, %d: %.300s, not %s", w.name, n, got, want)
			}
		}
	}
}

// P12.1: what stands ahead of the node too many, and behind it.
func TestNodesOrder(t *testing.T) {
	many := strings.Repeat("a,", 4095)
	n := 1 + len(many)
	refuse(t, []bad{
		{"[" + many + "*x, b]", api.ErrAnchor, n},
		{"[" + many + "b, *x]", api.ErrNodes, n},
		{"[*x," + many + "b]", api.ErrAnchor, 1},
		{"[" + many + "[*x]]", api.ErrNodes, n},
		{"[" + many + "{c: 1, c: 1}]", api.ErrNodes, n},
		{"[" + many + "b, {c: 1, c: 1}]", api.ErrNodes, n},
		{"{a: [" + many[2:] + "], a: b}", api.ErrTwice, n + 5},
		{"{a: [" + many[2:] + "], b: b, a: }", api.ErrNodes, n + 8},
		{"{a: [" + many[2:] + "], b:, a: }", api.ErrNodes, n + 5},
		{"[" + many + "b]\n---\n*x", api.ErrNodes, n},
		{"*x\n---\n[" + many + "b]", api.ErrAnchor, 0},
		{"---\n{a: , a: }\n---\n[" + many + "b]", api.ErrTwice, 10},
	})
	// Aliases are no nodes of their own, and each document has as many as may be.
	s := "&r [&x b" + strings.Repeat(",*x,*r", 9000) + "]"
	if d, f := load.One(s); f.Bad() || len(d.Nodes) != 2 || len(d.Nodes[0].Kids) != 18001 {
		t.Error(len(d.Nodes), f, f.At)
	}
	s = strings.Repeat("---\n["+many+"]\n", 7)
	docs, f := load.Docs(s)
	if f.Bad() || len(docs) != 7 {
		t.Fatal(len(docs), f, f.At)
	}
	for i, d := range docs {
		if len(d.Nodes) != 4096 {
			t.Errorf("document %d has %d nodes", i, len(d.Nodes))
		}
	}
}

// P12.1: what is wrong with One, if there isn't one document.
func TestOne(t *testing.T) {
	cases := []good{
		{"", wrong(api.ErrNone, 0)},
		{"\n", wrong(api.ErrNone, 0)},
		{"  # a\n\n", wrong(api.ErrNone, 0)},
		{"a\n---\nb\n", wrong(api.ErrMany, 6)},
		{"---\n---", wrong(api.ErrMany, 7)},
		{"---\n---\n  # b\n\n  c: d\n", wrong(api.ErrMany, 17)},
		{"a\n---\n  &x !t\n  - b", wrong(api.ErrMany, 8)},
		{"a\n---\n  !t [b]\n---\n", wrong(api.ErrMany, 8)},
		{"a\n---\n-\n---\n%", wrong(api.ErrSyntax, 12)},
		{strings.Repeat("---\n", 16), wrong(api.ErrMany, 7)},
		{strings.Repeat("---\n", 17), wrong(api.ErrMany, 64)},
		{"a\n---\nb\n---\n*x", wrong(api.ErrAnchor, 12)},
		{"a\n---\nb: \nb: ", wrong(api.ErrTwice, 10)},
		{"---\n# a\n", "3 null''"},
		{"\n---\n- a", "5 seq[1]; 7 str'a'"},
		{"a: &x 1\nb: *x\n", "0 map{a:1 b:1}; 3 int'1'"},
	}
	for _, c := range cases {
		if got := askedOne(c.s); got != c.want {
			t.Errorf("%q: %s, not %s", c.s, got, c.want)
		}
	}
}
