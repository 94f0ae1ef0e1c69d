package iso_test

import (
	"slices"
	"strconv"
	"testing"

	"stanhope/graph"
	"stanhope/iso"
	"stanhope/short"
	"stanhope/sketch"
)

var (
	str, scalar, seq, entries, keyed, tagged = sketch.Str, sketch.Scalar, sketch.Seq, sketch.Map, sketch.Keyed, sketch.Tagged
	of, chain, loop, odd                     = sketch.Of, sketch.Chain, sketch.Loop, sketch.Odd()
)

// holds asks whether a match has these pairs, and no others.
func holds(t *testing.T, name string, m *iso.Match, pairs ...[2]int) {
	t.Helper()
	if m.Len() != len(pairs) {
		t.Errorf("%s: %d pairs, not %v", name, m.Len(), pairs)
	}
	to, from := map[int]int{}, map[int]int{}
	for _, p := range pairs {
		to[p[0]], from[p[1]] = p[1], p[0]
	}
	for _, n := range append(odd, 0, 1, 2, 3, 4, 5, 6, 7, 8, 9, 4095, 4096) {
		if y, ok := to[n]; m.To(n) != y && ok || m.To(n) != -1 && !ok {
			t.Errorf("%s: to %d: %d, of %v", name, n, m.To(n), pairs)
		}
		if x, ok := from[n]; m.From(n) != x && ok || m.From(n) != -1 && !ok {
			t.Errorf("%s: from %d: %d, of %v", name, n, m.From(n), pairs)
		}
	}
}

// The chapter's example 1.
func TestExample(t *testing.T) {
	one := of(0, entries("a b", 1, 1), str("x"))
	two := of(0, entries("a b", 1, 2), str("x"), str("x"))
	if iso.Same(one, two) || iso.Same(two, one) || !iso.Same(one, one) || !iso.Same(two, two) {
		t.Error("same")
	}
	if iso.Code(one) == iso.Code(two) {
		t.Error(iso.Code(one))
	}
}

// P10.1: a match is without pairs.
func TestNew(t *testing.T) {
	g := of(0, seq(0, 1), str("x"))
	holds(t, "a graph and itself", iso.New(g, g))
	for i, bad := range sketch.MayNot() {
		name := strconv.Itoa(i)
		holds(t, name, iso.New(bad, g))
		holds(t, name, iso.New(g, bad))
		holds(t, name, iso.New(bad, bad))
	}
}

// P10.1: of graphs that may not be.
func TestJoinMayNot(t *testing.T) {
	g := of(0, str("x"), seq())
	for i, bad := range sketch.MayNot() {
		for _, m := range []*iso.Match{iso.New(bad, g), iso.New(g, bad), iso.New(bad, bad)} {
			for _, n := range append(odd, 0, 1, 2) {
				if m.Join(n, n) || m.Join(n, 0) || m.Join(0, n) {
					t.Errorf("graph %d: node %d is joined", i, n)
				}
			}
			holds(t, strconv.Itoa(i), m)
		}
	}
}

// P10.1: of numbers that are no node's.
func TestJoinNoNode(t *testing.T) {
	a := of(0, str("x"), str("x"), str("x"))
	b := of(0, str("x"), str("x"))
	m := iso.New(a, b)
	for _, n := range append(odd, 3, 4) {
		if m.Join(n, 0) || m.Join(0, n) || m.Join(n, n) {
			t.Errorf("node %d is joined", n)
		}
	}
	if m.Join(1, 2) || m.Join(3, 1) || !m.Join(2, 1) {
		t.Error("ends")
	}
	holds(t, "ends", m, [2]int{2, 1})
	if m.Join(-1, 1) || m.Join(2, -1) || m.Join(-1, -1) {
		t.Error("what stands for none is joined")
	}
	holds(t, "none", m, [2]int{2, 1})
}

// P10.1, P10.2, P10.3: which nodes look alike.
func TestLooks(t *testing.T) {
	for i, n := range sketch.Looks() {
		for j, o := range sketch.Looks() {
			a, b := of(0, n, n, str("z")), of(1, str("y"), o, str("z"))
			m := iso.New(a, b)
			if m.Join(0, 1) != (i == j) {
				t.Errorf("%v and %v are joined: %v", n, o, i != j)
			}
			if i != j {
				holds(t, "not alike", m)
			}
			if iso.Same(a, b) != (i == j) || (iso.Code(a) == iso.Code(b)) != (i == j) {
				t.Errorf("%v and %v are the same: %v", n, o, i != j)
			}
		}
	}
}

// join is a pair that is to be joined, and whether it can be.
type join struct {
	x, y int
	ok   bool
}

// P10.1
func TestJoin(t *testing.T) {
	two := of(0, str("x"), str("x"))
	cases := []struct {
		name  string
		a, b  graph.Graph
		joins []join
		pairs [][2]int
	}{
		{"scalars", two, two, []join{{0, 1, true}, {1, 0, true}}, [][2]int{{0, 1}, {1, 0}}},
		{"once more", two, two, []join{{0, 1, true}, {0, 1, true}}, [][2]int{{0, 1}}},
		{"the first is in a pair", two, two, []join{{0, 1, true}, {0, 0, false}, {0, 1, true}}, [][2]int{{0, 1}}},
		{"the second is in a pair", two, two, []join{{0, 1, true}, {1, 1, false}}, [][2]int{{0, 1}}},
		{"both are in pairs", two, two, []join{{0, 1, true}, {1, 0, true}, {0, 0, false}, {1, 1, false}}, [][2]int{{0, 1}, {1, 0}}},
		{"what isn't reached", of(0, str("y"), seq(2), str("x")), of(0, str("z"), str("x"), seq(1)), []join{{1, 2, true}}, [][2]int{{1, 2}, {2, 1}}},
		{"a part alone", of(0, seq(1), seq(2), str("x")), of(0, seq(1), seq(2), str("y")), []join{{0, 1, false}, {0, 0, false}, {1, 1, false}, {2, 2, false}}, nil},
		{"a part, then the rest", of(0, seq(1), seq(2), str("x")), of(2, str("x"), seq(0), seq(1)), []join{{2, 0, true}, {1, 1, true}, {0, 2, true}}, [][2]int{{2, 0}, {1, 1}, {0, 2}}},
		{"entries go by their keys", of(0, entries("b a", 1, 2), str("x"), str("y")), of(0, entries("a b", 1, 2), str("y"), str("x")), []join{{0, 0, true}}, [][2]int{{0, 0}, {1, 2}, {2, 1}}},
		{"entries don't go by their places", of(0, entries("b a", 1, 2), str("x"), str("y")), of(0, entries("a b", 1, 2), str("x"), str("y")), []join{{0, 0, false}}, nil},
		{"items go by their places", of(0, seq(1, 2), str("x"), str("y")), of(0, seq(2, 1), str("y"), str("x")), []join{{0, 0, true}}, [][2]int{{0, 0}, {1, 2}, {2, 1}}},
		{"items don't go otherwise", of(0, seq(1, 2), str("x"), str("y")), of(0, seq(1, 2), str("y"), str("x")), []join{{0, 0, false}}, nil},
		{"one by two", of(0, seq(1, 1), str("x")), of(0, seq(1, 2), str("x"), str("x")), []join{{0, 0, false}, {1, 2, true}, {0, 0, false}}, [][2]int{{1, 2}}},
		{"two by one", of(0, seq(1, 2), str("x"), str("x")), of(0, seq(1, 1), str("x")), []join{{0, 0, false}, {1, 1, true}, {2, 1, false}, {0, 0, false}}, [][2]int{{1, 1}}},
		{"the last edge", of(0, seq(1, 2, 3), seq(4), str("y"), str("x"), str("z")), of(0, seq(1, 2, 3), seq(4), str("y"), str("w"), str("z")), []join{{0, 0, false}}, nil},
		{"the last edge, then a part", of(0, seq(1, 2, 3), seq(4), str("y"), str("x"), str("z")), of(0, seq(1, 2, 3), seq(4), str("y"), str("w"), str("z")), []join{{0, 0, false}, {1, 1, true}}, [][2]int{{1, 1}, {4, 4}}},
		{"far down", of(0, seq(1), seq(2), seq(3), seq(4), str("x")), of(0, seq(1), seq(2), seq(3), seq(4), str("y")), []join{{0, 0, false}, {3, 3, false}}, nil},
		{"a pair is in the way", of(0, seq(1, 2), str("x"), str("x")), of(0, seq(1, 2), str("x"), str("x")), []join{{1, 2, true}, {0, 0, false}, {2, 1, true}, {0, 0, false}}, [][2]int{{1, 2}, {2, 1}}},
		{"a pair of the second is in the way", of(0, seq(1), str("x"), str("x")), of(0, seq(1), str("x")), []join{{2, 1, true}, {0, 0, false}}, [][2]int{{2, 1}}},
		{"pairs are on the way", of(0, seq(1, 2), str("x"), str("x")), of(0, seq(1, 2), str("x"), str("x")), []join{{1, 1, true}, {0, 0, true}}, [][2]int{{0, 0}, {1, 1}, {2, 2}}},
		{"in vain, then otherwise", of(0, seq(1, 2), str("x"), str("y")), of(0, seq(1, 2), str("x"), str("z"), seq(1, 4), str("y")), []join{{0, 0, false}, {0, 3, true}}, [][2]int{{0, 3}, {1, 1}, {2, 4}}},
		{"what was joined stays", of(0, seq(1, 2), seq(3), str("y"), str("x")), of(0, seq(1, 2), seq(3), str("z"), str("x")), []join{{3, 3, true}, {0, 0, false}}, [][2]int{{3, 3}}},
		{"a loop", loop(1), loop(1), []join{{0, 0, true}}, [][2]int{{0, 0}}},
		{"a loop of two", loop(2), loop(2), []join{{0, 1, true}, {1, 0, true}, {1, 1, false}}, [][2]int{{0, 1}, {1, 0}}},
		{"loops of one and two", loop(1), loop(2), []join{{0, 0, false}, {0, 1, false}}, nil},
		{"loops of two and one", loop(2), loop(1), []join{{0, 0, false}, {1, 0, false}}, nil},
		{"loops of two and four", loop(2), loop(4), []join{{0, 0, false}, {1, 3, false}}, nil},
		{"a loop of three", loop(3), loop(3), []join{{1, 0, true}, {2, 1, true}, {1, 1, false}}, [][2]int{{1, 0}, {2, 1}, {0, 2}}},
		{"a loop behind a chain", chain(3, 1), chain(3, 0), []join{{0, 0, false}, {1, 1, false}, {1, 0, false}}, nil},
		{"a loop through keys", of(0, entries("a b", 0, 1), entries("a b", 1, 0)), of(0, entries("b a", 0, 1), entries("b a", 1, 0)), []join{{0, 0, false}, {0, 1, false}}, nil},
		{"a loop through keys, sorted", of(0, entries("a b", 0, 1), entries("a b", 1, 0)), of(0, entries("b a", 1, 0), entries("b a", 0, 1)), []join{{0, 1, true}}, [][2]int{{0, 1}, {1, 0}}},
	}
	for _, c := range cases {
		m := iso.New(c.a, c.b)
		for _, j := range c.joins {
			if ok := m.Join(j.x, j.y); ok != j.ok {
				t.Errorf("%s: %d and %d: %v", c.name, j.x, j.y, ok)
			}
		}
		holds(t, c.name, m, c.pairs...)
	}
}

// P10.1: what can't be joined leaves the match as it was, step by step.
func TestJoinInVain(t *testing.T) {
	g := of(0, seq(1, 2, 3), seq(2), seq(3), str("x"), seq(1, 2, 5), str("y"), str("x"))
	m := iso.New(g, g)
	steps := []struct {
		join
		pairs [][2]int
	}{
		{join{0, 4, false}, nil},
		{join{4, 0, false}, nil},
		{join{3, 6, true}, [][2]int{{3, 6}}},
		{join{0, 0, false}, [][2]int{{3, 6}}},
		{join{2, 2, false}, [][2]int{{3, 6}}},
		{join{4, 4, false}, [][2]int{{3, 6}}},
		{join{5, 5, true}, [][2]int{{3, 6}, {5, 5}}},
		{join{6, 3, true}, [][2]int{{3, 6}, {5, 5}, {6, 3}}},
		{join{1, 1, false}, [][2]int{{3, 6}, {5, 5}, {6, 3}}},
	}
	for i, s := range steps {
		if ok := m.Join(s.x, s.y); ok != s.ok {
			t.Errorf("step %d: %v", i, ok)
		}
		holds(t, "step "+strconv.Itoa(i), m, s.pairs...)
	}
}

// sames are graphs that are the same, and their pairs.
func sames() []struct {
	a, b  graph.Graph
	pairs [][2]int
} {
	return []struct {
		a, b  graph.Graph
		pairs [][2]int
	}{
		{of(0, str("x")), of(0, str("x")), [][2]int{{0, 0}}},
		{of(0, str("x")), of(1, str("y"), str("x")), [][2]int{{0, 1}}},
		{of(2, str("x"), str("x"), str("x")), of(0, str("x")), [][2]int{{2, 0}}},
		{of(0, seq(1, 1), str("x")), of(1, str("x"), seq(0, 0)), [][2]int{{0, 1}, {1, 0}}},
		{of(0, seq(2, 1), str("x"), str("y")), of(0, seq(1, 2), str("y"), str("x")), [][2]int{{0, 0}, {2, 1}, {1, 2}}},
		{of(0, seq(2, 1, 2), str("x"), str("x")), of(2, str("x"), str("x"), seq(0, 1, 0)), [][2]int{{0, 2}, {2, 0}, {1, 1}}},
		// What an edge leads to comes with all that it reaches, ahead of the next edge.
		{of(0, seq(1, 2), seq(3), str("y"), str("x")), of(3, str("x"), str("y"), seq(0), seq(2, 1)), [][2]int{{0, 3}, {1, 2}, {3, 0}, {2, 1}}},
		// Entries by their keys, however they stand.
		{of(0, entries("b a", 1, 2), str("x"), str("y")), of(0, entries("a b", 1, 2), str("y"), str("x")), [][2]int{{0, 0}, {2, 1}, {1, 2}}},
		{of(3, str("x"), str("y"), str("z"), entries("c b a", 0, 1, 2)), of(0, entries("b c a", 1, 2, 3), str("y"), str("x"), str("z")), [][2]int{{3, 0}, {2, 3}, {1, 1}, {0, 2}}},
		{of(0, entries("b a c", 1, 1, 2), str("x"), str("x")), of(0, entries("a b c", 2, 2, 1), str("x"), str("x")), [][2]int{{0, 0}, {1, 2}, {2, 1}}},
		{of(0, entries("B _ a", 1, 2, 3), str("B"), str("_"), str("a")), of(0, entries("a B _", 3, 1, 2), str("B"), str("_"), str("a")), [][2]int{{0, 0}, {1, 1}, {2, 2}, {3, 3}}},
		// Cycles.
		{loop(1), loop(1), [][2]int{{0, 0}}},
		{loop(3), of(2, loop(3).Nodes...), [][2]int{{0, 2}, {1, 0}, {2, 1}}},
		{of(1, seq(1, 2), seq(0, 2), str("x")), of(0, seq(1, 2), seq(0, 2), str("x")), [][2]int{{1, 0}, {0, 1}, {2, 2}}},
		{of(0, entries("b a", 0, 1), entries("x", 0)), of(1, entries("x", 1), entries("a b", 0, 1)), [][2]int{{0, 1}, {1, 0}}},
		// Lists without elements.
		{of(0, graph.Node{Kind: graph.Map, Tag: "map", Keys: []string{}, Kids: []int{}}), of(0, entries("")), [][2]int{{0, 0}}},
		{of(0, graph.Node{Kind: graph.Scalar, Tag: "str", Keys: []string{}, Kids: []int{}}), of(0, str("")), [][2]int{{0, 0}}},
		{of(0, graph.Node{Kind: graph.Seq, Tag: "!s", Keys: []string{}, Kids: []int{}}), of(0, tagged("!s", seq())), [][2]int{{0, 0}}},
	}
}

// P10.2, P10.3
func TestSame(t *testing.T) {
	for i, c := range sames() {
		if !iso.Same(c.a, c.b) || !iso.Same(c.b, c.a) {
			t.Errorf("%d: not the same", i)
		}
		if l, ok := iso.Pairs(c.a, c.b); !ok || !slices.Equal(l, c.pairs) {
			t.Errorf("%d: %v, %v, not %v", i, l, ok, c.pairs)
		}
		if x, y := iso.Code(c.a), iso.Code(c.b); x != y || x == "" {
			t.Errorf("%d: %q, %q", i, x, y)
		}
	}
}

// others are graphs, no two of which are the same.
func others() []graph.Graph {
	return []graph.Graph{
		of(0, str("x")),
		of(0, str("y")),
		of(0, seq(1), str("x")),
		of(0, seq(1), str("y")),
		of(0, seq(1, 1), str("x")),
		of(0, seq(1, 2), str("x"), str("x")),
		of(0, seq(1, 2), str("x"), str("y")),
		of(0, seq(2, 1), str("x"), str("y")),
		of(0, seq(1, 1, 1), str("x")),
		of(0, seq(1, 1, 2), str("x"), str("x")),
		of(0, seq(1, 2, 1), str("x"), str("x")),
		of(0, seq(2, 1, 1), str("x"), str("x")),
		of(0, seq(1, 2, 3), str("x"), str("x"), str("x")),
		of(0, entries("a b", 1, 1), str("x")),
		of(0, entries("a b", 1, 2), str("x"), str("x")),
		of(0, entries("a b", 1, 2), str("x"), str("y")),
		of(0, entries("a b", 2, 1), str("x"), str("y")),
		of(0, seq(1, 2), seq(3), seq(3), str("x")),
		of(0, seq(1, 2), seq(3), seq(4), str("x"), str("x")),
		of(0, seq(1, 1), seq(2), str("x")),
		of(0, seq(1, 2), seq(2), str("x")),
		of(0, seq(2, 1), seq(2), str("x")),
		of(0, seq(1, 2), seq(3), str("x"), str("x")),
		loop(1),
		loop(2),
		loop(3),
		loop(4),
		chain(2, 1),
		chain(3, 1),
		chain(3, 2),
		chain(1),
		chain(2),
		chain(3),
		of(0, seq(0, 0)),
		of(0, seq(0, 1), seq(0, 1)),
		of(0, seq(1, 0), seq(0, 1)),
		of(0, seq(1, 0), seq(1, 0)),
		of(0, seq(0, 1), seq(1, 0)),
		of(0, seq(1, 1), seq(0, 0)),
		of(0, seq(1, 1), seq(0, 1)),
		// Texts in which what stands behind one might be a part of it.
		of(0, seq(1, 2), str("x"), str("1 x")),
		of(0, seq(1, 2), str("x1 "), str("x")),
		of(0, seq(1, 2), str("x\x00"), str("y")),
		of(0, seq(1, 2), str("x"), str("\x00y")),
		of(0, seq(1, 2), str("x\"\n"), str("y")),
		of(0, seq(1, 2), str("x"), str("\"\ny")),
		of(0, seq(1, 2), str("x,"), str("y")),
		of(0, seq(1, 2), str("x"), str(",y")),
		of(0, keyed("a 1", 0)),
		of(0, entries("a 1", 0, 0)),
		of(0, entries("a1 b", 0, 0)),
		of(0, entries("a 1b", 0, 0)),
		of(0, tagged("!a", scalar("", "1x"))),
		of(0, tagged("!a1", scalar("", "x"))),
		// Numbers of which what stands behind one might be a part.
		wide(1, 11),
		wide(11, 1),
		wide(11, 11),
		wide(1, 1, 1),
	}
}

// wide is a graph of a sequence of eleven scalars, and then some of them again.
func wide(again ...int) graph.Graph {
	g := of(0, seq(append([]int{1, 2, 3, 4, 5, 6, 7, 8, 9, 10, 11}, again...)...))
	for range 11 {
		g.Nodes = append(g.Nodes, str("x"))
	}
	return g
}

// P10.2, P10.3
func TestNotSame(t *testing.T) {
	for i, a := range others() {
		for j, b := range others() {
			if iso.Same(a, b) != (i == j) {
				t.Errorf("%d and %d: %v", i, j, i != j)
			}
			if l, ok := iso.Pairs(a, b); ok != (i == j) || !ok && len(l) != 0 {
				t.Errorf("%d and %d: %v, %v", i, j, l, ok)
			}
			if (iso.Code(a) == iso.Code(b)) != (i == j) {
				t.Errorf("%d and %d: %q and %q", i, j, iso.Code(a), iso.Code(b))
			}
		}
	}
}

// P10.3: no two of many texts, as scalars and as keys, have one code.
func TestCodes(t *testing.T) {
	met := map[string]graph.Graph{}
	tell := func(g graph.Graph) {
		c := iso.Code(g)
		if h, ok := met[c]; ok || c == "" {
			t.Errorf("%v and %v: %q", g, h, c)
		}
		met[c] = g
	}
	for s := range short.Texts(3, "1", " ", "a") {
		tell(of(0, str(s)))
		tell(of(0, keyed(s, 0)))
		for u := range short.Texts(3, "1", " ", "a") {
			tell(of(0, seq(1, 2), str(s), str(u)))
			tell(of(0, keyed(s, 1), str(u)))
			if s < u {
				tell(of(0, graph.Node{Kind: graph.Map, Tag: "map", Keys: []string{s, u}, Kids: []int{0, 0}}))
			}
		}
	}
}

// P10.2, P10.3: of graphs that may not be.
func TestMayNot(t *testing.T) {
	good := of(0, str("x"))
	for i, bad := range sketch.MayNot() {
		for _, c := range [][2]graph.Graph{{bad, good}, {good, bad}, {bad, bad}} {
			if iso.Same(c[0], c[1]) {
				t.Errorf("%d: the same", i)
			}
			if l, ok := iso.Pairs(c[0], c[1]); len(l) != 0 || ok {
				t.Errorf("%d: %v, %v", i, l, ok)
			}
		}
		if s := iso.Code(bad); s != "" {
			t.Errorf("%d: %q", i, s)
		}
	}
}

// P10.1 to P10.4: as many nodes as may be.
func TestLong(t *testing.T) {
	l := loop(4096)
	turned := of(77, l.Nodes...)
	if !iso.Same(l, turned) || iso.Code(l) != iso.Code(turned) {
		t.Error("a loop that is turned")
	}
	pairs, ok := iso.Pairs(turned, l)
	for i, p := range pairs {
		if p != [2]int{(77 + i) % 4096, i} {
			t.Fatalf("pair %d is %v", i, p)
		}
	}
	if !ok || len(pairs) != 4096 {
		t.Error(len(pairs), ok)
	}
	m := iso.New(l, turned)
	if !m.Join(1, 0) || m.Len() != 4096 || m.To(0) != 4095 || m.From(4095) != 0 || m.Join(0, 0) || m.Len() != 4096 {
		t.Error("join")
	}
	for _, g := range []graph.Graph{loop(4095), chain(4096), chain(4096, 1), chain(4096, 4095)} {
		m := iso.New(l, g)
		if iso.Same(l, g) || iso.Same(g, l) || iso.Code(l) == iso.Code(g) || m.Join(0, 0) {
			t.Error("another one is the same")
		}
		holds(t, "another one", m)
	}
}

// P10.1 to P10.3: many edges.
func TestDense(t *testing.T) {
	const n = 1500
	all := make([]int, n)
	back := make([]int, n)
	for i := range all {
		all[i], back[i] = i, n-1-i
	}
	a := of(0, slices.Repeat([]graph.Node{seq(all...)}, n)...)
	b := of(n-1, slices.Repeat([]graph.Node{seq(back...)}, n)...)
	pairs, ok := iso.Pairs(a, b)
	if !ok || len(pairs) != n || pairs[n-1] != [2]int{n - 1, 0} || iso.Code(a) != iso.Code(b) {
		t.Error(len(pairs), ok)
	}
	b.Nodes[5].Kids = slices.Clone(back)
	b.Nodes[5].Kids[n-1] = 1
	if iso.Same(a, b) || iso.Code(a) == iso.Code(b) {
		t.Error("the last edge of a node")
	}
}
