package audit_test

import (
	"slices"
	"strconv"
	"strings"
	"testing"

	"stanhope/audit"
	"stanhope/graph"
	"stanhope/load"
	"stanhope/sketch"
)

// of is the graph of a text.
func of(t *testing.T, s string) graph.Graph {
	t.Helper()
	d, f := load.One(s)
	if f.Bad() {
		t.Fatalf("%q: %v at %d", s, f, f.At)
	}
	return d.Graph
}

// hold holds the lines of two graphs' difference.
func hold(t *testing.T, what string, a, b graph.Graph, want ...string) {
	t.Helper()
	if l := audit.Diff(a, b); !slices.Equal(l, want) {
		t.Errorf("%s: %d lines\n%.3000s\nnot %d\n%.3000s", what, len(l), strings.Join(l, "\n"), len(want), strings.Join(want, "\n"))
	}
}

// P27.2: lines, in the order of the pairs.
func TestDiff(t *testing.T) {
	for _, c := range []struct {
		a, b string
		want []string
	}{
		// The document's example.
		{"a: 1\n", "a: 2\n", []string{`/a: int "1" | int "2"`}},
		// The roots.
		{"x", "x", nil},
		{"x", "y", []string{`/: str "x" | str "y"`}},
		{"1", "'1'", []string{`/: int "1" | str "1"`}},
		{"1", "!a 1", []string{`/: int "1" | !a "1"`}},
		{"~", "''", []string{`/: null "" | str ""`}},
		{"[]", "{}", []string{`/: [seq 0] | {map}`}},
		{"x", "[x]", []string{`/: str "x" | [seq 1]`}},
		{"{a: x}", "[x]", []string{`/: {map a} | [seq 1]`}},
		{"{'0': x}", "[y]", []string{`/: {map '0'} | [seq 1]`}},
		{"!s []", "[]", []string{`/: [!s 0] | [seq 0]`}},
		{"!m {}", "!n {}", []string{`/: {!m} | {!n}`}},
		// Words: quoted texts, and keys, rising.
		{`"a\"b\\c\n\t\x01é` + "\u2028" + `"`, "x", []string{`/: str "a\"b\\c\n\t\x01é` + "\u2028" + `" | str "x"`}},
		{"{b: 1, a: 1, B: 1, '': 1, 'c d': 1, \"\\n\": 1, é: 1, '1': 1}", "{}",
			[]string{`/: {map '' "\n" '1' B a b 'c d' 'é'} | {map}`}},
		// Ways: keys and places.
		{"{a: {b: [x, {c: y}]}}", "{a: {b: [x, {c: z}]}}", []string{`/a/b/1/c: str "y" | str "z"`}},
		{"{'': {'a b': {\"\\n\": {'0': x}}}}", "{'': {'a b': {\"\\n\": {'0': y}}}}", []string{`/''/'a b'/"\n"/'0': str "x" | str "y"`}},
		{"[[[x]]]", "[[[y]]]", []string{`/0/0/0: str "x" | str "y"`}},
		{"[1, 2, 3, 4, 5, 6, 7, 8, 9, 10, 11]", "[1, 2, 3, 4, 5, 6, 7, 8, 9, 10, 12]", []string{`/10: int "11" | int "12"`}},
		// A pair, and then, by rising keys, or places, what belongs to it, and to that.
		{"{b: [1], a: {c: 1, b: 1}}", "{b: [2, 2], a: {b: 2, c: 2}}", []string{
			`/a/b: int "1" | int "2"`, `/a/c: int "1" | int "2"`, `/b: [seq 1] | [seq 2]`, `/b/0: int "1" | int "2"`}},
		{"[[x, [x]], x]", "!s [!s [y, !s [y]], y]", []string{
			`/: [seq 2] | [!s 2]`, `/0: [seq 2] | [!s 2]`, `/0/0: str "x" | str "y"`, `/0/1: [seq 1] | [!s 1]`, `/0/1/0: str "x" | str "y"`, `/1: str "x" | str "y"`}},
		{"{é: 1, z: 1, Z: 1, '': 1, '10': 1, '9': 1}", "{é: 2, z: 2, Z: 2, '': 2, '10': 2, '9': 2}", []string{
			`/'': int "1" | int "2"`, `/'10': int "1" | int "2"`, `/'9': int "1" | int "2"`, `/Z: int "1" | int "2"`, `/z: int "1" | int "2"`, `/'é': int "1" | int "2"`}},
		// Keys, or places, that both have.
		{"{a: 1, c: 1, d: 1, e: 1}", "{b: 2, c: 2, e: 2, f: 2}", []string{
			`/: {map a c d e} | {map b c e f}`, `/c: int "1" | int "2"`, `/e: int "1" | int "2"`}},
		{"{a: 1}", "{a: 2, b: 3}", []string{`/: {map a} | {map a b}`, `/a: int "1" | int "2"`}},
		{"{b: 1}", "{a: 3, b: 2}", []string{`/: {map b} | {map a b}`, `/b: int "1" | int "2"`}},
		{"{a: 1}", "{b: 2}", []string{`/: {map a} | {map b}`}},
		{"[1, 2, 3]", "[2, 2]", []string{`/: [seq 3] | [seq 2]`, `/0: int "1" | int "2"`}},
		{"[2, 2]", "[1, 2, 3]", []string{`/: [seq 2] | [seq 3]`, `/0: int "2" | int "1"`}},
		{"[1]", "[]", []string{`/: [seq 1] | [seq 0]`}},
		// Of other tags, too; but not of a sequence and a mapping.
		{"!m {a: 1}", "!n {a: 2}", []string{`/: {!m a} | {!n a}`, `/a: int "1" | int "2"`}},
		{"!s [1]", "!t [2]", []string{`/: [!s 1] | [!t 1]`, `/0: int "1" | int "2"`}},
		{"[[1], {a: 1}]", "[{'0': 2}, [2]]", []string{`/0: [seq 1] | {map '0'}`, `/1: {map a} | [seq 1]`}},
		// The order in which entries are written, and names, are of no account.
		{"{b: [x], a: 1}", "a: 1\n'b':\n  - &x 'x'\n", nil},
		// What is shared: each pair once, by the way on which it comes first.
		{"[&x 1, *x, *x]", "[&x 2, *x, *x]", []string{`/0: int "1" | int "2"`}},
		{"[&x 1, *x, *x]", "[2, 2, 2]", []string{`/0: int "1" | int "2"`, `/1: int "1" | int "2"`, `/2: int "1" | int "2"`}},
		{"[1, 1]", "[&x 2, *x]", []string{`/0: int "1" | int "2"`, `/1: int "1" | int "2"`}},
		{"[&x 1, *x]", "[&x 1, *x]", nil},
		{"[&x 1, *x]", "[1, 1]", nil},
		{"a: {c: &x [1]}\nb: *x\n", "a: {c: &x [2]}\nb: *x\n", []string{`/a/c/0: int "1" | int "2"`}},
		{"[&a [x], [&b [*a]], *b]", "[&a [y], [&b [*a]], *b]", []string{`/0/0: str "x" | str "y"`}},
		{"[&a [1], *a, [2]]", "[[1], &b [2], *b]", []string{`/1/0: int "1" | int "2"`}},
		{"[[&a [1]], *a]", "[&b [[1]], *b]", []string{`/1/0: int "1" | [seq 1]`}},
		// Cycles.
		{"&x [*x]", "&x [*x]", nil},
		{"&x [*x]", "&x [[[*x]]]", nil},
		{"&x [*x, 1]", "&x [*x, 2]", []string{`/1: int "1" | int "2"`}},
		{"&x {a: *x, b: 1}", "&x {a: {a: {a: *x, b: 1}, b: 2}, b: 1}", []string{`/a/b: int "1" | int "2"`}},
		{"&x {a: {a: *x, b: 1}, b: 1}", "&x {a: {a: {a: *x, b: 1}, b: 2}, b: 1}", []string{`/a/a/a/a/b: int "1" | int "2"`, `/a/b: int "1" | int "2"`}},
		{"&x [[*x]]", "&x [[[*x], 1]]", []string{
			`/0: [seq 1] | [seq 2]`, `/0/0/0/0: [seq 1] | [seq 2]`}},
	} {
		hold(t, c.a+" and "+c.b, of(t, c.a), of(t, c.b), c.want...)
	}
}

// list is a sequence of so many texts, of which so many first ones are y, the others x.
func list(n, ys int) graph.Graph {
	g := sketch.Of(0, sketch.Seq())
	for i := range n {
		g.Nodes[0].Kids = append(g.Nodes[0].Kids, i+1)
		text := "x"
		if i < ys {
			text = "y"
		}
		g.Nodes = append(g.Nodes, sketch.Str(text))
	}
	return g
}

// P27.2: the 64 first lines alone.
func TestMost(t *testing.T) {
	var want []string
	for i := range 64 {
		want = append(want, "/"+strconv.Itoa(i)+`: str "x" | str "y"`)
	}
	for n := range 70 {
		hold(t, strconv.Itoa(n), list(200, 0), list(200, n), want[:min(n, 64)]...)
	}
	hold(t, "all", list(200, 0), list(200, 200), want...)
	// The roots are among the 64.
	hold(t, "roots", list(200, 0), list(199, 199), append([]string{"/: [seq 200] | [seq 199]"}, want[:63]...)...)
	// Pairs that look alike aren't.
	for i := range want {
		want[i] = "/" + strconv.Itoa(i+100) + `: str "y" | str "x"`
	}
	hold(t, "behind others", list(200, 200), list(200, 100), want...)
}

// P27.2: none of graphs that may not be.
func TestMayNot(t *testing.T) {
	good := []graph.Graph{sketch.Of(0, sketch.Str("x")), sketch.Of(0, sketch.Seq(1), sketch.Str("y")), sketch.Loop(3)}
	for i, g := range sketch.MayNot() {
		for _, h := range append(good, g) {
			hold(t, strconv.Itoa(i), g, h)
			hold(t, strconv.Itoa(i), h, g)
		}
	}
	// What isn't right, though it isn't reached.
	hold(t, "not reached", sketch.Of(0, sketch.Str("x"), graph.Node{}), good[1])
	hold(t, "good", good[0], good[1], `/: str "x" | [seq 1]`)
}

// P27.2: what isn't reached is of no account, nor are numbers.
func TestReached(t *testing.T) {
	a := sketch.Of(2, sketch.Str("no"), sketch.Str("x"), sketch.Seq(1, 1, 2))
	b := sketch.Of(0, sketch.Seq(3, 3, 0), sketch.Seq(1), sketch.Map("a", 0), sketch.Str("y"))
	hold(t, "reached", a, b, `/0: str "x" | str "y"`)
	hold(t, "reached", b, a, `/0: str "y" | str "x"`)
}

// R1: long ways; all pairs of the nodes of two loops.
func TestFar(t *testing.T) {
	way := strings.Repeat("/0", 4095)
	hold(t, "chain", sketch.Chain(4096), sketch.Loop(4096), way+": [seq 0] | [seq 1]")
	// A loop of 255 and one of 256 meet in all pairs; in each of the last nodes' pairs one has an edge more.
	a, b := sketch.Loop(255), sketch.Loop(256)
	hold(t, "loops", a, b)
	last := sketch.Chain(255, 0, 0)
	var want []string
	for i := range 64 {
		want = append(want, strings.Repeat("/0", 254+255*i)+": [seq 2] | [seq 1]")
	}
	hold(t, "loops", last, b, want...)
	// The whole way leads through each pair, the first of which comes last again.
	b.Nodes[255] = sketch.Tagged("!s", sketch.Seq(0))
	both := sketch.Of(0, append(slices.Clone(a.Nodes[:254]), sketch.Tagged("!s", sketch.Seq(0)))...)
	got := audit.Diff(both, b)
	if len(got) != 64 || got[0] != strings.Repeat("/0", 254)+": [!s 1] | [seq 1]" || got[1] != strings.Repeat("/0", 255)+": [seq 1] | [!s 1]" {
		t.Errorf("%d lines, %.1000s", len(got), strings.Join(got, "\n"))
	}
}

// R1: pairs of as many nodes as two graphs may have, the only difference behind them all.
func TestAllPairs(t *testing.T) {
	a, b := sketch.Loop(1021), sketch.Loop(1024)
	for i := range a.Nodes {
		a.Nodes[i].Kids = append(a.Nodes[i].Kids, 1021)
	}
	for i := range b.Nodes {
		b.Nodes[i].Kids = append(b.Nodes[i].Kids, 1024)
	}
	a.Nodes, b.Nodes = append(a.Nodes, sketch.Str("x")), append(b.Nodes, sketch.Str("y"))
	hold(t, "all pairs", a, b, strings.Repeat("/0", 1021*1024-1)+`/1: str "x" | str "y"`)
}

// R1: mappings and sequences of very many entries.
func TestWide(t *testing.T) {
	a, b := sketch.Of(0, sketch.Map(""), sketch.Str("x")), sketch.Of(0, sketch.Map(""), sketch.Str("y"))
	for i := range 100000 {
		a.Nodes[0].Keys, a.Nodes[0].Kids = append(a.Nodes[0].Keys, strconv.Itoa(i)), append(a.Nodes[0].Kids, 1)
		if i != 10 {
			b.Nodes[0].Keys, b.Nodes[0].Kids = append(b.Nodes[0].Keys, strconv.Itoa(i)), append(b.Nodes[0].Kids, 1)
		}
	}
	l := audit.Diff(a, b)
	if len(l) != 2 || !strings.HasPrefix(l[0], "/: {map '0' '1' '10' '100' ") || !strings.Contains(l[0], " '99999'} | {map '0' '1' '100' ") || l[1] != `/'0': str "x" | str "y"` {
		t.Errorf("%d lines", len(l))
	}
	a, b = sketch.Of(0, sketch.Seq(make([]int, 1000000)...)), sketch.Of(0, sketch.Seq(make([]int, 999999)...))
	hold(t, "wide", a, b, "/: [seq 1000000] | [seq 999999]")
}
