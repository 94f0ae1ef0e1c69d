package unfold_test

import (
	"reflect"
	"slices"
	"testing"

	"stanhope/api"
	"stanhope/graph"
	"stanhope/iso"
	"stanhope/sketch"
	"stanhope/unfold"
)

var (
	str, scalar, seq, entries, tagged = sketch.Str, sketch.Scalar, sketch.Seq, sketch.Map, sketch.Tagged
	of, chain, loop                   = sketch.Of, sketch.Chain, sketch.Loop
)

// twice is a graph of that many sequences, each of which leads twice to the next one, and then a scalar.
func twice(n int) graph.Graph {
	var g graph.Graph
	for i := range n {
		g.Nodes = append(g.Nodes, seq(i+1, i+1))
	}
	g.Nodes = append(g.Nodes, str("x"))
	return g
}

// under is a graph under a sequence more, behind that many scalars.
func under(g graph.Graph, scalars int) graph.Graph {
	n := len(g.Nodes)
	kids := slices.Repeat([]int{n + 1}, scalars)
	return of(n, append(slices.Clone(g.Nodes), seq(append(kids, g.Root)...), str("y"))...)
}

// wide is a graph of a sequence that leads to one scalar that many times.
func wide(n int) graph.Graph { return of(0, seq(slices.Repeat([]int{1}, n)...), str("x")) }

// marked is a loop of as many sequences as marks: each is tagged with an own tag of its mark.
func marked(marks string) graph.Graph {
	g := loop(len(marks))
	for i := range g.Nodes {
		g.Nodes[i] = tagged("!"+marks[i:i+1], g.Nodes[i])
	}
	return g
}

// ended is a chain of that many nodes, the last of which is some other node.
func ended(n int, last graph.Node) graph.Graph {
	g := chain(n)
	g.Nodes[n-1] = last
	return g
}

// numbers are the numbers from one on below another.
func numbers(from, below int) []int {
	var l []int
	for i := from; i < below; i++ {
		l = append(l, i)
	}
	return l
}

// run are n sequences of a graph from a number on, each of which leads to the next one, and the last one to none.
func run(from, n int) []graph.Node {
	var l []graph.Node
	for _, i := range numbers(from, from+n-1) {
		l = append(l, seq(i+1))
	}
	return append(l, seq())
}

// upward are n sequences of a graph from a number on, each of which leads to the one ahead.
func upward(from, n int) []graph.Node {
	var l []graph.Node
	for _, i := range numbers(from, from+n) {
		l = append(l, seq(i-1))
	}
	return l
}

// The chapter's example 1.
func TestExample(t *testing.T) {
	g := of(0, seq(1, 1), str("x"))
	if n, ok := unfold.Size(g); n != 3 || !ok {
		t.Error(n, ok)
	}
	if x := unfold.Fold(g); !iso.Same(x, g) || !sketch.Equal(x, g) {
		t.Error(x)
	}
	if x := unfold.Fold(of(0, seq(1, 2), str("x"), str("x"))); !sketch.Equal(x, g) {
		t.Error(x)
	}
}

// P11.1
func TestSize(t *testing.T) {
	if unfold.Most != 1048576 {
		t.Error(unfold.Most)
	}
	cases := []struct {
		name string
		g    graph.Graph
		want int // 0, if it isn't told
	}{
		{"a scalar", of(0, str("x")), 1},
		{"an empty sequence", of(0, seq()), 1},
		{"an empty mapping", of(0, entries("")), 1},
		{"one below", of(0, seq(1), str("x")), 2},
		{"two scalars", of(0, seq(1, 2), str("x"), str("x")), 3},
		{"a scalar twice", of(0, seq(1, 1), str("x")), 3},
		{"entries", of(0, entries("b a c", 1, 1, 2), str("x"), seq(1)), 5},
		{"a tag", of(0, tagged("!m", entries("a b", 1, 1)), tagged("!s", seq(2, 2, 2)), scalar("null", "")), 9},
		{"shared in two places", of(0, seq(1, 2), seq(2), seq(3, 3), str("x")), 8},
		{"the last node is the root", of(3, str("x"), seq(0, 0), seq(1, 0), entries("b a", 2, 1)), 9},
		{"not all is reached", of(1, seq(1, 1), str("x"), seq(0, 0)), 1},
		{"a cycle that isn't reached", of(1, seq(0, 1), seq(2), str("x")), 2},
		{"a cycle that leads to the root", of(2, seq(0, 2), seq(2), str("x")), 1},
		{"a chain", chain(4096), 4096},
		{"twice, 11 times", twice(11), 4095},
		{"twice, 12 times", twice(12), 8191},
		{"twice, 19 times", twice(19), 1<<20 - 1},
		{"as many as are told", under(twice(19), 0), 1 << 20},
		{"one more", under(twice(19), 1), 0},
		{"one more, below", under(under(twice(19), 0), 0), 0},
		{"twice, 20 times", twice(20), 0},
		{"twice, 30 times", twice(30), 0},
		{"twice, 31 times", twice(31), 0},
		{"twice, 62 times", twice(62), 0},
		{"twice, 63 times", twice(63), 0},
		{"twice, 64 times", twice(64), 0},
		{"twice, 4095 times", twice(4095), 0},
		{"wide", wide(1<<20 - 1), 1 << 20},
		{"wider", wide(1 << 20), 0},
		{"far wider", wide(1 << 21), 0},
		{"a loop", loop(1), 0},
		{"a loop of two", loop(2), 0},
		{"a loop of all", loop(4096), 0},
		{"a loop at the end", chain(4096, 4095), 0},
		{"a loop in the middle", chain(4096, 2000), 0},
		{"a loop behind scalars", of(0, seq(1, 1, 2), str("x"), entries("a b", 1, 2)), 0},
		{"a loop behind too many", of(0, append([]graph.Node{seq(1, 31, 0)}, twice(31).Nodes...)...), 0},
	}
	for _, c := range cases {
		if n, ok := unfold.Size(c.g); n != c.want || ok != (c.want > 0) {
			t.Errorf("%s: %d, %v, not %d", c.name, n, ok, c.want)
		}
	}
}

// P11.1, P11.2, P11.3: of graphs that may not be.
func TestMayNot(t *testing.T) {
	good := of(0, str("x"))
	for i, g := range append(sketch.MayNot(), of(0, seq(0), str("\xff")), of(0, append(wide(5000).Nodes, seq(9))...)) {
		if n, ok := unfold.Size(g); n != 0 || ok {
			t.Errorf("%d: size %d, %v", i, n, ok)
		}
		if unfold.Alike(g, good) || unfold.Alike(good, g) || unfold.Alike(g, g) || unfold.Alike(g, graph.Graph{}) {
			t.Errorf("%d: alike", i)
		}
		if x := unfold.Fold(g); !reflect.DeepEqual(x, graph.Graph{}) {
			t.Errorf("%d: folded %v", i, x)
		}
		if x, f := unfold.Tree(g); !reflect.DeepEqual(x, graph.Graph{}) || f != g.Check() || !f.Bad() {
			t.Errorf("%d: tree %v, %v at %d", i, x, f, f.At)
		}
	}
}

// P11.2: nodes that don't look alike aren't of one kind, wherever they stand.
func TestLooks(t *testing.T) {
	for i, n := range sketch.Looks() {
		for j, o := range sketch.Looks() {
			a, b := of(0, n, str("y"), str("z")), of(1, str("y"), o, str("z"))
			if unfold.Alike(a, b) != (i == j) {
				t.Errorf("%v and %v: alike %v", n, o, i != j)
			}
			if a, b = under(a, 1), under(b, 1); unfold.Alike(a, b) != (i == j) {
				t.Errorf("%v and %v, below: alike %v", n, o, i != j)
			}
			both := of(3, n, o, str("z"), seq(0, 1), str("y"))
			if x := unfold.Fold(both); (x.Nodes[0].Kids[0] == x.Nodes[0].Kids[1]) != (i == j) {
				t.Errorf("%v and %v: folded %v", n, o, x)
			}
		}
	}
}

// P11.2
func TestAlike(t *testing.T) {
	x, y := str("x"), str("y")
	cases := []struct {
		name string
		a, b graph.Graph
		want bool
	}{
		{"scalars", of(0, x), of(1, y, x), true},
		{"other scalars", of(0, x), of(0, y), false},
		{"other roots", of(0, x, y), of(1, x, y), false},
		{"shared and not", of(0, seq(1, 1), x), of(0, seq(1, 2), x, x), true},
		{"shared below and not", of(0, seq(1, 2), seq(3), seq(3), x), of(0, seq(1, 2), seq(3), seq(4), x, x), true},
		{"all shared and not", of(0, seq(1, 1), seq(2), x), of(0, seq(1, 2), seq(3), seq(4), x, x), true},
		{"what isn't reached", of(0, seq(1), x, y), of(0, seq(1), x, seq(0)), true},
		{"items", of(0, seq(1, 2), x, y), of(0, seq(2, 1), y, x), true},
		{"items, the other way", of(0, seq(1, 2), x, y), of(0, seq(2, 1), x, y), false},
		{"items in part", of(0, seq(1, 2), x, y), of(0, seq(1, 1), x), false},
		{"an item more", of(0, seq(1, 1), x), of(0, seq(1, 1, 1), x), false},
		{"no items", of(0, seq()), of(0, seq(1), x), false},
		{"entries", of(0, entries("a b", 1, 2), x, y), of(0, entries("b a", 2, 1), x, y), true},
		{"entries by places", of(0, entries("a b", 1, 2), x, y), of(0, entries("b a", 1, 2), x, y), false},
		{"entries, shared and not", of(0, entries("a b", 1, 1), x), of(0, entries("b a", 2, 1), x, x), true},
		{"another key", of(0, entries("a b", 1, 1), x), of(0, entries("a c", 1, 1), x), false},
		{"a sequence and a mapping", of(0, seq()), of(0, entries("")), false},
		{"the edges of one on those of two", of(0, seq(1, 2), seq(3, 4), seq(4, 3), x, y), of(0, seq(1, 1), seq(2, 3), x, y), false},
		{"chains", chain(3), of(2, seq(), seq(0), seq(1)), true},
		{"chains of other lengths", chain(3), chain(4), false},
		{"long chains", chain(4095), chain(4096), false},
		{"a long chain", chain(4096), chain(4096), true},
		{"ends of long chains", ended(4096, x), ended(4096, y), false},
		{"ends of long chains alike", ended(4096, x), ended(4096, x), true},
		{"a chain and a loop", chain(4096), loop(1), false},
		{"loops of one and two", loop(1), loop(2), true},
		{"loops of two and three", loop(2), loop(3), true},
		{"long loops", loop(4095), loop(4096), true},
		{"a loop behind a chain", chain(3, 1), loop(1), true},
		{"a loop at a chain's end", chain(4096, 4095), loop(7), true},
		{"a loop with an end", of(0, seq(0, 1), x), of(0, seq(1, 2), seq(0, 2), x), true},
		{"a loop with two ends", of(0, seq(0, 1), x), of(0, seq(1, 2), seq(0, 3), x, y), false},
		{"a loop and all through it", of(0, seq(0, 0)), of(0, seq(1, 0), seq(0, 1)), true},
		{"loops through keys", of(0, entries("a b", 0, 1), entries("a b", 1, 0)), of(0, entries("b a", 0, 0)), true},
		{"marks", marked("ab"), marked("abab"), true},
		{"marks, turned", marked("ab"), marked("ba"), false},
		{"marks, turned and rooted", marked("ab"), of(1, marked("ba").Nodes...), true},
		{"marks, out of step", marked("ab"), marked("aba"), false},
		{"marks, one off", marked("abababab"), marked("ababaabb"), false},
		{"marks, three", marked("aab"), marked("aabaab"), true},
		{"marks, not three", marked("aab"), marked("aabaabab"), false},
	}
	for _, c := range cases {
		if unfold.Alike(c.a, c.b) != c.want || unfold.Alike(c.b, c.a) != c.want {
			t.Errorf("%s: alike %v", c.name, !c.want)
		}
		if !unfold.Alike(c.a, c.a) || !unfold.Alike(c.b, c.b) {
			t.Errorf("%s: not alike with itself", c.name)
		}
	}
}

// P11.2: what is folded, node by node, as it is trimmed.
func TestFold(t *testing.T) {
	x, y := str("x"), str("y")
	cases := []struct {
		name    string
		g, want graph.Graph
	}{
		{"a scalar", of(0, x), of(0, x)},
		{"not all is reached", of(1, y, x, x, seq(1)), of(0, x)},
		{"two that are alike", of(0, seq(1, 2), x, x), of(0, seq(1, 1), x)},
		{"two of three", of(0, seq(1, 2, 3), x, y, x), of(0, seq(1, 2, 1), x, y)},
		{"none of three", of(0, seq(3, 2, 1), seq(), y, x), of(0, seq(1, 2, 3), x, y, seq())},
		{"alike where nothing leads", of(1, x, seq(2), x), of(0, seq(1), x)},
		{"entries", of(0, entries("c b a", 1, 2, 3), y, x, y), of(0, entries("a b c", 1, 2, 1), y, x)},
		{"entries that stand otherwise", of(0, seq(1, 2), entries("b a", 3, 4), entries("a b", 5, 3), y, x, x), of(0, seq(1, 1), entries("a b", 2, 3), x, y)},
		{"entries that stand alike", of(0, seq(1, 2), entries("b a", 3, 4), entries("a b", 3, 4), y, x), of(0, seq(1, 4), entries("a b", 2, 3), x, y, entries("a b", 3, 2))},
		{"below", of(0, seq(1, 2), seq(3), seq(4), x, x), of(0, seq(1, 1), seq(2), x)},
		{"below, otherwise", of(0, seq(1, 2), seq(3), seq(4), x, y), of(0, seq(1, 3), seq(2), x, seq(4), y)},
		{"tags", of(0, tagged("!m", entries("a b", 1, 2)), tagged("!s", seq(3)), tagged("!s", seq(4)), scalar("!x", "y"), scalar("!x", "y")), of(0, tagged("!m", entries("a b", 1, 1)), tagged("!s", seq(2)), scalar("!x", "y"))},
		{"places told apart far below", of(0, seq(1, 2), seq(3, 3), seq(3, 4), seq(5), seq(6), x, y), of(0, seq(1, 4), seq(2, 2), seq(3), x, seq(2, 5), seq(6), y)},
		{"a tree of four", of(0, seq(1, 2), seq(3, 4), seq(5, 6), x, x, x, x), of(0, seq(1, 1), seq(2, 2), x)},
		{"a long chain", chain(4096), chain(4096)},
		{"a long chain, backwards", of(0, append([]graph.Node{seq(4095), seq()}, upward(2, 4094)...)...), chain(4096)},
		{"two long chains", of(0, append([]graph.Node{seq(1, 2048)}, slices.Concat(run(1, 2047), run(2048, 2047))...)...), of(0, append([]graph.Node{seq(1, 1)}, run(1, 2047)...)...)},
		{"a loop", loop(1), loop(1)},
		{"a loop of five", loop(5), loop(1)},
		{"a loop of all", of(99, loop(4096).Nodes...), loop(1)},
		{"a chain to a loop", chain(4096, 2000), loop(1)},
		{"marks", marked("abcabc"), marked("abc")},
		{"marks with a root", of(4, marked("abcabc").Nodes...), marked("bca")},
		{"marks that aren't repeated", marked("aabab"), marked("aabab")},
		{"loops to one another", of(0, seq(1, 2), seq(0, 2), seq(2, 1)), of(0, seq(0, 0))},
		{"a loop and what leads out of it", of(0, seq(1, 3), seq(2, 3), seq(0, 4), x, x), of(0, seq(0, 1), x)},
		{"a loop and one that ends", of(0, seq(1, 2), seq(1), seq(3), seq(2)), of(0, seq(1, 1), seq(1))},
		// Of what is folded the first visit goes another way than of the graph.
		{"another first visit", of(0, seq(1, 2), tagged("!p", seq(3, 4)), str("q"), seq(1, 5), str("r"), str("q")), of(0, seq(1, 3), tagged("!p", seq(0, 2)), str("r"), str("q"))},
		{"lists without elements", of(0, graph.Node{Kind: graph.Map, Tag: "map", Keys: []string{}, Kids: []int{}}), of(0, entries(""))},
	}
	for _, c := range cases {
		if x := unfold.Fold(c.g); !sketch.Equal(x, c.want) {
			t.Errorf("%s: %.300v, not %.300v", c.name, x, c.want)
		}
	}
}

// P11.3: the unfolding, node by node, as it is trimmed.
func TestTree(t *testing.T) {
	x, y := str("x"), str("y")
	cases := []struct {
		name    string
		g, want graph.Graph
	}{
		{"a scalar", of(1, y, x), of(0, x)},
		{"an empty mapping", of(0, entries("")), of(0, entries(""))},
		{"a scalar twice", of(0, seq(1, 1), x), of(0, seq(1, 2), x, x)},
		{"two scalars", of(0, seq(2, 1), x, y), of(0, seq(1, 2), y, x)},
		{"below", of(0, seq(1, 1), seq(2, 3), x, y), of(0, seq(1, 4), seq(2, 3), x, y, seq(5, 6), x, y)},
		{"entries", of(1, x, entries("b a", 2, 0), entries("d c", 0, 3), y), of(0, entries("a b", 1, 2), x, entries("c d", 3, 4), y, x)},
		{"entries to one", of(0, tagged("!m", entries("c b a", 1, 1, 1)), tagged("!n", entries("k", 2)), scalar("int", "1")), of(0, tagged("!m", entries("a b c", 1, 3, 5)), tagged("!n", entries("k", 2)), scalar("int", "1"), tagged("!n", entries("k", 4)), scalar("int", "1"), tagged("!n", entries("k", 6)), scalar("int", "1"))},
		{"at two depths", of(0, seq(1, 2), seq(2), seq(3), x), of(0, seq(1, 4), seq(2), seq(3), x, seq(5), x)},
		{"not all is reached", of(2, seq(0), seq(2), seq(3), x), of(0, seq(1), x)},
		{"a chain", of(4095, append([]graph.Node{seq()}, upward(1, 4095)...)...), chain(4096)},
		{"as many as may be", wide(4095), of(0, append([]graph.Node{seq(numbers(1, 4096)...)}, slices.Repeat([]graph.Node{x}, 4095)...)...)},
	}
	for _, c := range cases {
		got, f := unfold.Tree(c.g)
		if f != (api.Fault{}) || !sketch.Equal(got, c.want) {
			t.Errorf("%s: %.300v, %v at %d, not %.300v", c.name, got, f, f.At, c.want)
		}
	}
}

// P11.3: what is wrong, and which fault is the first.
func TestTreeFaults(t *testing.T) {
	x := str("x")
	nodes := api.Fault{Errno: api.ErrNodes, At: 4096}
	cycle := func(root int) api.Fault { return api.Fault{Errno: api.ErrCycle, At: root} }
	cases := []struct {
		name string
		g    graph.Graph
		want api.Fault
	}{
		{"a loop", loop(1), cycle(0)},
		{"a loop of two", of(1, loop(2).Nodes...), cycle(1)},
		{"a loop below", of(2, x, seq(1, 0), seq(0, 1)), cycle(2)},
		{"a loop at the end", chain(4096, 4095), cycle(0)},
		{"the last root", of(4095, loop(4096).Nodes...), cycle(4095)},
		{"a loop behind too many", of(3, append(wide(5000).Nodes, seq(2), seq(0, 2))...), cycle(3)},
		{"a loop ahead of too many", of(3, append(wide(5000).Nodes, seq(2), seq(2, 0))...), cycle(3)},
		{"one more", wide(4096), nodes},
		{"one more, below", under(wide(4095), 0), nodes},
		{"twice, 12 times", twice(12), nodes},
		{"more than are told", twice(20), nodes},
		{"more than there are numbers", twice(64), nodes},
		{"twice, 4095 times", twice(4095), nodes},
		{"another root", under(twice(12), 3), nodes},
		{"a node that isn't right, and a loop", of(0, seq(0), seq(9)), api.Fault{Errno: api.ErrShape, At: 1}},
		{"a node that isn't right, and too many", of(0, append(wide(4096).Nodes, seq(9))...), api.Fault{Errno: api.ErrShape, At: 2}},
		{"no root, and a loop", of(2, loop(2).Nodes...), api.Fault{Errno: api.ErrShape, At: 2}},
		{"4097 nodes, and a loop", of(0, loop(4097).Nodes...), nodes},
	}
	for _, c := range cases {
		if got, f := unfold.Tree(c.g); f != c.want || !reflect.DeepEqual(got, graph.Graph{}) {
			t.Errorf("%s: %v at %d, not %v at %d; %.300v", c.name, f, f.At, c.want, c.want.At, got)
		}
	}
	for _, g := range []graph.Graph{of(0, x, seq(1)), of(0, append([]graph.Node{x}, twice(64).Nodes...)...), twice(11)} {
		if _, f := unfold.Tree(g); f != (api.Fault{}) {
			t.Errorf("%.300v: %v at %d", g, f, f.At)
		}
	}
}

// P11.2: all pairs of some scalars, as sequences of which each stands twice: each pair is of a kind of its own.
func TestPairs(t *testing.T) {
	const n = 40
	g := of(0, seq(numbers(1, 1+n+2*n*n)...))
	for i := range n {
		g.Nodes = append(g.Nodes, str(string(rune('0'+i))))
	}
	for i := range 2 * n * n {
		g.Nodes = append(g.Nodes, seq(1+i%n, 1+i/n%n))
	}
	x := unfold.Fold(g)
	if len(x.Nodes) != 1+n+n*n || !unfold.Alike(x, g) {
		t.Errorf("%d nodes", len(x.Nodes))
	}
	kids := x.Nodes[0].Kids[n:]
	for i, k := range kids {
		if k != kids[i%(n*n)] {
			t.Fatalf("pair %d is folded to %d", i, k)
		}
		p := x.Nodes[k].Kids
		if a, b := x.Nodes[p[0]].Text, x.Nodes[p[1]].Text; a != string(rune('0'+i%n)) || b != string(rune('0'+i/n%n)) {
			t.Fatalf("pair %d is %q, %q", i, a, b)
		}
	}
}

// P11.1, P11.2, P11.3: many edges between all nodes.
func TestDense(t *testing.T) {
	const n = 1000
	all := numbers(0, n)
	g := of(7, slices.Repeat([]graph.Node{seq(all...)}, n)...)
	one := of(0, seq(make([]int, n)...))
	if x := unfold.Fold(g); !sketch.Equal(x, one) || !unfold.Alike(g, one) {
		t.Errorf("%.300v", x)
	}
	// Nodes of which each next one is told apart from the others in a round of its own.
	g.Nodes = slices.Clone(g.Nodes)
	for i := range g.Nodes {
		g.Nodes[i].Kids = slices.Clone(all)
		for j := range i + 1 {
			g.Nodes[i].Kids[j] = min(i+1, n-1)
		}
	}
	g.Nodes[n-1] = str("x")
	g.Root = 0
	if x := unfold.Fold(g); len(x.Nodes) != n || !iso.Same(x, g) {
		t.Errorf("%d nodes", len(x.Nodes))
	}
	if size, ok := unfold.Size(g); size != 0 || ok {
		t.Error(size, ok)
	}
	if _, f := unfold.Tree(g); f != (api.Fault{Errno: api.ErrNodes, At: 4096}) {
		t.Error(f, f.At)
	}
}
