package graph_test

import (
	"math"
	"reflect"
	"slices"
	"strconv"
	"strings"
	"testing"

	"stanhope/api"
	"stanhope/graph"
	"stanhope/sketch"
)

var (
	str, scalar, seq, entries, tagged = sketch.Str, sketch.Scalar, sketch.Seq, sketch.Map, sketch.Tagged
	of, chain, odd                    = sketch.Of, sketch.Chain, sketch.Odd()
)

// a is a text of that many bytes.
func a(n int) string { return strings.Repeat("a", n) }

// upTo are the numbers from 0 on below n.
func upTo(n int) []int {
	l := make([]int, n)
	for i := range l {
		l[i] = i
	}
	return l
}

func shape(at int) api.Fault { return api.Fault{Errno: api.ErrShape, At: at} }

func TestKinds(t *testing.T) {
	if graph.Scalar != 1 || graph.Seq != 2 || graph.Map != 3 {
		t.Error(graph.Scalar, graph.Seq, graph.Map)
	}
}

// The chapter's example 1.
func TestExample(t *testing.T) {
	g := of(1, str("x"), entries("b a", 0, 0))
	if l := g.Reach(1); !slices.Equal(l, []int{1, 0}) {
		t.Error(l)
	}
	if l := g.In(); !slices.Equal(l, []int{2, 1}) {
		t.Error(l)
	}
}

// P9.1: graphs that may be.
func TestMay(t *testing.T) {
	own := "!" + a(32)
	good := []graph.Graph{
		of(0, str("")),
		of(0, str("x")),
		of(2, str("x"), str("x"), str("x")),
		of(0, scalar("null", "")),
		of(0, scalar("bool", "true")),
		of(0, scalar("int", "-1")),
		of(0, scalar("!a", "x")),
		of(0, scalar(own, "")),
		of(0, str(a(1024))),
		of(0, str("a\n\t\x00é")),
		of(0, graph.Node{Kind: graph.Scalar, Tag: "str", Keys: []string{}, Kids: []int{}}),
		of(0, seq()),
		of(0, seq(0, 0, 0)),
		of(0, seq(1, 2, 1), str("x"), seq(0)),
		of(0, tagged("!seq", seq(0))),
		of(0, tagged(own, seq())),
		of(0, graph.Node{Kind: graph.Seq, Tag: "seq", Keys: []string{}}),
		of(0, entries("")),
		of(0, entries("b a", 0, 1), seq(0)),
		of(0, entries("a A aa", 0, 0, 0)),
		of(0, tagged("!map", entries("a", 0))),
		of(0, tagged(own, entries(""))),
		of(0, graph.Node{Kind: graph.Map, Tag: "map", Keys: []string{"", " ", "\n", "\x00", "é", "\ufffd", "---"}, Kids: make([]int, 7)}),
		of(0, entries(a(1024)+" "+a(1023), 0, 0)),
		of(0, entries(strings.Repeat("é", 512), 0)),
		chain(4096),
		chain(4096, 0),
		of(4095, chain(4096, 4095).Nodes...),
	}
	for i, g := range good {
		if f := g.Check(); f != (api.Fault{}) {
			t.Errorf("graph %d: %v at %d", i, f, f.At)
		}
	}
}

// wrongNodes are nodes that aren't right in a graph of three nodes.
func wrongNodes() []graph.Node {
	return []graph.Node{
		{},
		{Tag: "str"},
		{Kind: -1, Tag: "str"},
		{Kind: 4, Tag: "map"},
		{Kind: 1 << 32, Tag: "seq"},
		// Scalars.
		scalar("", ""),
		scalar("seq", ""),
		scalar("map", ""),
		scalar("!", "x"),
		scalar("!a b", "x"),
		scalar("!"+a(33), "x"),
		scalar("null", "~"),
		scalar("bool", "yes"),
		scalar("int", "x"),
		scalar("int", "01"),
		str(a(1025)),
		str("a\xff"),
		{Kind: graph.Scalar, Tag: "str", Text: "x", Keys: []string{"a"}},
		{Kind: graph.Scalar, Tag: "str", Text: "x", Kids: []int{0}},
		{Kind: graph.Scalar, Tag: "str", Text: "x", Keys: []string{"a"}, Kids: []int{0}},
		// Sequences.
		tagged("", seq()),
		tagged("map", seq()),
		tagged("str", seq()),
		tagged("!", seq()),
		tagged("!"+a(33), seq()),
		{Kind: graph.Seq, Tag: "seq", Text: "x"},
		{Kind: graph.Seq, Tag: "!a", Text: "x", Kids: []int{0}},
		{Kind: graph.Seq, Tag: "seq", Keys: []string{"a"}},
		{Kind: graph.Seq, Tag: "seq", Keys: []string{"a"}, Kids: []int{0}},
		seq(-1),
		seq(3),
		seq(0, 1, 2, 3),
		seq(math.MinInt),
		seq(math.MaxInt, 0),
		// Mappings.
		tagged("", entries("")),
		tagged("seq", entries("")),
		tagged("str", entries("")),
		tagged("!", entries("")),
		tagged("!é", entries("a", 0)),
		{Kind: graph.Map, Tag: "map", Text: "x"},
		{Kind: graph.Map, Tag: "!a", Text: "x", Keys: []string{"a"}, Kids: []int{0}},
		entries("a"),
		entries("", 0),
		entries("a b", 0),
		entries("a", 0, 0),
		entries("a", -1),
		entries("a", 3),
		entries("a b", 0, math.MaxInt),
		entries("a a", 0, 0),
		entries("a b a", 0, 1, 2),
		{Kind: graph.Map, Tag: "map", Keys: []string{"", ""}, Kids: []int{0, 1}},
		entries(a(1025), 0),
		entries("b "+a(1025), 0, 0),
		entries(strings.Repeat("é", 513), 0),
		entries("a\xff", 0),
		entries("a \xed\xa0\x80", 0, 0),
	}
}

// P9.1: what is wrong with a graph, and that nothing else is told of it.
func TestMayNot(t *testing.T) {
	for i, n := range wrongNodes() {
		for at := range 3 {
			nodes := []graph.Node{str("x"), seq(0, 2), entries("a", 1)}
			nodes[at] = n
			for root := range 3 {
				wrong(t, "node "+strconv.Itoa(i), of(root, nodes...), shape(at))
			}
		}
	}
	for _, root := range append(odd, 2, 3, 4096) {
		wrong(t, "root "+strconv.Itoa(root), of(root, str("x"), seq(0)), shape(2))
		wrong(t, "no nodes, root "+strconv.Itoa(root), of(root), shape(0))
	}
	wrong(t, "no nodes", graph.Graph{}, shape(0))
	wrong(t, "no nodes, root 1", of(1), shape(0))
}

// wrong holds a fault against that of a graph, and all that is told of it against nothing.
func wrong(t *testing.T, name string, g graph.Graph, want api.Fault) {
	t.Helper()
	if f := g.Check(); f != want {
		t.Errorf("%s: %v at %d, not %v at %d", name, f, f.At, want, want.At)
	}
	for _, n := range append(odd, 0, 1, 2, 3, 4095, 4096) {
		nothing(t, name, g, n)
	}
	if l := g.In(); len(l) != 0 {
		t.Errorf("%s: in %v", name, l)
	}
	if x := g.Trim(); !reflect.DeepEqual(x, graph.Graph{}) {
		t.Errorf("%s: trimmed %v", name, x)
	}
}

// nothing asks what is told of a node.
func nothing(t *testing.T, name string, g graph.Graph, n int) {
	t.Helper()
	if l := g.Edges(n); len(l) != 0 {
		t.Errorf("%s: edges of %d %v", name, n, l)
	}
	if l := g.Reach(n); len(l) != 0 {
		t.Errorf("%s: reach of %d %v", name, n, l)
	}
	if g.Cyclic(n) {
		t.Errorf("%s: %d cyclic", name, n)
	}
}

// P9.1: which error is the first.
func TestCheckFirst(t *testing.T) {
	bad := graph.Node{}
	wrong(t, "two nodes", of(0, str(""), bad, bad), shape(1))
	wrong(t, "a node, then an edge", of(0, seq(1), bad, seq(9)), shape(1))
	wrong(t, "an edge, then a node", of(0, seq(0), seq(9), bad), shape(1))
	wrong(t, "a node and the root", of(-1, str(""), bad), shape(1))
	wrong(t, "a node that isn't reached", of(0, str(""), seq(0), bad), shape(2))
	many := api.Fault{Errno: api.ErrNodes, At: 4096}
	wrong(t, "4097 nodes", chain(4097), many)
	wrong(t, "4097 nodes, and a node", of(0, append([]graph.Node{bad}, chain(4096).Nodes...)...), many)
	wrong(t, "4097 nodes, and the root", of(-1, chain(4097).Nodes...), many)
	wrong(t, "many nodes", of(0, make([]graph.Node, 1<<17)...), many)
	wrong(t, "4096 nodes, and the last one", of(0, append(chain(4095).Nodes, bad)...), shape(4095))
	wrong(t, "4096 nodes, and the root", of(4096, chain(4096).Nodes...), shape(4096))
}

// P9.1: of numbers that are no node's.
func TestNoNode(t *testing.T) {
	g := of(1, seq(1), seq(0, 2), str("x"))
	for _, n := range append(odd, 3, 4) {
		nothing(t, "may be", g, n)
	}
}

// P9.2
func TestEdges(t *testing.T) {
	g := of(0,
		seq(2, 1, 2, 0),
		entries("b a", 0, 1),
		str("x"),
		entries("b a c B _ aa é \U0001f600 \uffff 9 10", 0, 1, 2, 3, 4, 5, 6, 7, 8, 9, 10),
		entries("b a c", 2, 2, 2),
		seq(),
		entries(""),
		tagged("!m", entries("z y", 0, 3)),
		tagged("!s", seq(8, 7)),
		graph.Node{Kind: graph.Map, Tag: "map", Keys: []string{"a", "", " ", "\n"}, Kids: []int{0, 1, 2, 3}},
		scalar("!x", "y"),
	)
	want := [][]int{{2, 1, 2, 0}, {1, 0}, nil, {10, 9, 3, 4, 1, 5, 0, 2, 6, 8, 7}, {2, 2, 2}, nil, nil, {3, 0}, {8, 7}, {1, 3, 2, 0}, nil}
	for n, w := range want {
		if l := g.Edges(n); !slices.Equal(l, w) {
			t.Errorf("%d: %v, not %v", n, l, w)
		}
	}
}

// P9.2
func TestReach(t *testing.T) {
	cases := []struct {
		g    graph.Graph
		n    int
		want []int
	}{
		{of(0, str("x")), 0, []int{0}},
		{of(0, str("x"), seq(0)), 0, []int{0}},
		{of(0, str("x"), seq(0)), 1, []int{1, 0}},
		{of(0, seq(0)), 0, []int{0}},
		{of(0, seq(3, 1, 2), str("x"), str("y"), str("z")), 0, []int{0, 3, 1, 2}},
		{of(3, str("x"), str("y"), str("z"), entries("c b a", 0, 1, 2)), 3, []int{3, 2, 1, 0}},
		// What an edge leads to comes with all that it reaches, ahead of the next edge.
		{of(0, seq(1, 2), seq(3), seq(4), str("x"), str("y")), 0, []int{0, 1, 3, 2, 4}},
		{of(0, seq(1, 2), seq(2), str("x")), 0, []int{0, 1, 2}},
		{of(0, seq(2, 1), seq(2), str("x")), 0, []int{0, 2, 1}},
		{of(0, entries("b a", 1, 2), seq(3), seq(4, 1), str("x"), str("y")), 0, []int{0, 2, 4, 1, 3}},
		// Cycles.
		{of(0, seq(1), seq(2), seq(0, 3), str("x")), 1, []int{1, 2, 0, 3}},
		{of(0, entries("b a", 0, 1), entries("b a", 2, 1), seq(0)), 0, []int{0, 1, 2}},
		{of(0, seq(0, 1, 0, 1), str("x")), 0, []int{0, 1}},
		{chain(4096), 0, upTo(4096)},
		{chain(4096, 0), 0, upTo(4096)},
		{chain(4096, 0), 4095, append([]int{4095}, upTo(4095)...)},
		{chain(4096), 4095, []int{4095}},
	}
	for i, c := range cases {
		if l := c.g.Reach(c.n); !slices.Equal(l, c.want) {
			t.Errorf("%d: %v, not %v", i, l, c.want)
		}
	}
}

// P9.2
func TestCyclic(t *testing.T) {
	cases := []struct {
		g    graph.Graph
		want string // for each node . or, if it is, @
	}{
		{of(0, str("x")), "."},
		{of(0, seq()), "."},
		{of(0, seq(0)), "@"},
		{of(0, entries("b a", 0, 1), str("x")), "@."},
		{of(0, seq(1, 1), str("x")), ".."},
		{of(0, seq(1, 2), seq(2), str("x")), "..."},
		{of(0, seq(1, 2, 3), seq(3), seq(3), seq()), "...."},
		{of(0, seq(1), seq(0)), "@@"},
		{of(0, seq(1), seq(1)), "@@"},
		{of(0, seq(), seq(1)), ".@"},
		{of(0, seq(1, 2), str("x"), seq(3), seq(4), entries("a", 2), seq(0), seq(1)), "@.@@@@."},
		{of(3, seq(1), seq(), seq(0), seq(3)), "...@"},
		{chain(4096), strings.Repeat(".", 4096)},
		{chain(4096, 0), strings.Repeat("@", 4096)},
		{chain(4096, 4095), strings.Repeat("@", 4096)},
	}
	for i, c := range cases {
		for n := range c.g.Nodes {
			// Not of each node of the long ones, since each call goes through the whole graph.
			if n < 8 || n == len(c.g.Nodes)-1 {
				if got := c.g.Cyclic(n); got != (c.want[n] == '@') {
					t.Errorf("graph %d, node %d: %v", i, n, got)
				}
			}
		}
	}
}

// P9.2
func TestIn(t *testing.T) {
	cases := []struct {
		g    graph.Graph
		want []int
	}{
		{of(0, str("x")), []int{1}},
		{of(1, str("x"), str("y")), []int{0, 1}},
		{of(0, str("x"), seq(0)), []int{1, 0}},
		{of(1, str("x"), seq(0)), []int{1, 1}},
		{of(0, seq(0)), []int{2}},
		{of(0, seq(1, 1, 0, 1), str("x")), []int{2, 3}},
		{of(0, entries("b a c", 1, 2, 1), str("x"), seq(0)), []int{2, 2, 1}},
		// Edges of nodes that aren't reached don't count.
		{of(1, seq(1, 2), seq(2), str("x"), seq(2, 2), seq(4, 1)), []int{0, 1, 1, 0, 0}},
		{of(4, seq(1, 2), seq(2), str("x"), seq(2, 2), seq(4, 1)), []int{0, 1, 1, 0, 2}},
		{of(2, seq(1), seq(0), seq()), []int{0, 0, 1}},
	}
	for i, c := range cases {
		if l := c.g.In(); !slices.Equal(l, c.want) {
			t.Errorf("%d: %v, not %v", i, l, c.want)
		}
	}
	l := chain(4096, upTo(4096)...).In()
	if want := slices.Repeat([]int{2}, 4096); !slices.Equal(l, want) {
		t.Errorf("%.300v", l)
	}
}

// P9.3
func TestTrim(t *testing.T) {
	cases := []struct{ g, want graph.Graph }{
		{of(0, str("x")), of(0, str("x"))},
		{of(1, str("x"), str("y")), of(0, str("y"))},
		{of(0, str("x"), seq(0)), of(0, str("x"))},
		{of(1, scalar("int", "1"), tagged("!s", seq(0, 0))), of(0, tagged("!s", seq(1, 1)), scalar("int", "1"))},
		{of(2, seq(1), str("x"), seq(2, 0)), of(0, seq(0, 1), seq(2), str("x"))},
		{
			of(0, tagged("!m", entries("b a c", 1, 2, 1)), str("x"), scalar("!y", "y")),
			of(0, tagged("!m", entries("a b c", 1, 2, 2)), scalar("!y", "y"), str("x")),
		},
		{
			of(3, str("x"), seq(5), entries("z y", 3, 4), entries("b B", 2, 0), seq(2), str("no")),
			of(0, entries("B b", 1, 2), str("x"), entries("y z", 3, 0), seq(2)),
		},
		// Nodes that look alike stay two.
		{of(0, seq(2, 1), str("x"), str("x")), of(0, seq(1, 2), str("x"), str("x"))},
		// Lists without elements.
		{of(1, str("x"), entries("")), of(0, graph.Node{Kind: graph.Map, Tag: "map"})},
		{of(0, graph.Node{Kind: graph.Scalar, Tag: "str", Keys: []string{}, Kids: []int{}}), of(0, str(""))},
		{of(0, graph.Node{Kind: graph.Seq, Tag: "seq", Keys: []string{}, Kids: []int{}}), of(0, seq())},
		{chain(4096, 0), chain(4096, 0)},
		{of(4095, chain(4096).Nodes...), of(0, seq())},
		{of(4095, chain(4096, 0).Nodes...), chain(4096, 0)},
	}
	for i, c := range cases {
		got := c.g.Trim()
		same(t, i, got, c.want)
		same(t, i, got.Trim(), c.want)
	}
}

// same holds two graphs against each other, as they stand.
func same(t *testing.T, i int, got, want graph.Graph) {
	t.Helper()
	if !sketch.Equal(got, want) {
		t.Errorf("%d: %.300v, not %.300v", i, got, want)
	}
}
