package iso_test

import (
	"math/rand"
	"slices"
	"testing"

	"stanhope/graph"
	"stanhope/iso"
)

// looksAlike says of two nodes what the chapter says of them.
func looksAlike(n, o graph.Node) bool {
	if n.Kind != o.Kind || n.Tag != o.Tag || n.Text != o.Text || len(n.Kids) != len(o.Kids) {
		return false
	}
	for _, k := range n.Keys {
		if !slices.Contains(o.Keys, k) {
			return false
		}
	}
	return true
}

// match is of each node of the first graph the one that it is paired with, or -1.
type match []int

// all are all matches of two graphs that may be: of all ways to pair nodes those that are right.
func all(a, b graph.Graph) []match {
	var l []match
	var pick func(m match)
	pick = func(m match) {
		if len(m) == len(a.Nodes) {
			if m.right(a, b) {
				l = append(l, slices.Clone(m))
			}
			return
		}
		for y := -1; y < len(b.Nodes); y++ {
			if y < 0 || !slices.Contains(m, y) {
				pick(append(slices.Clone(m), y))
			}
		}
	}
	pick(nil)
	return l
}

// right says whether each pair is as the chapter asks.
func (m match) right(a, b graph.Graph) bool {
	for x, y := range m {
		if y < 0 {
			continue
		}
		if !looksAlike(a.Nodes[x], b.Nodes[y]) {
			return false
		}
		to := b.Edges(y)
		for i, k := range a.Edges(x) {
			if m[k] != to[i] {
				return false
			}
		}
	}
	return true
}

// has says whether a match has all pairs of another one.
func (m match) has(o match) bool {
	for x, y := range o {
		if y >= 0 && m[x] != y {
			return false
		}
	}
	return true
}

// least is of some matches the one that has all these pairs, and all of whose pairs each other one has that has them.
func least(t *testing.T, l []match, pairs match) (match, bool) {
	t.Helper()
	var best match
	for _, m := range l {
		if m.has(pairs) && (best == nil || best.has(m)) {
			best = m
		}
	}
	for _, m := range l {
		if m.has(pairs) && !m.has(best) {
			t.Fatalf("%v has %v, but not %v", m, pairs, best)
		}
	}
	return best, best != nil
}

// is asks whether a match is what it should be.
func (m match) is(t *testing.T, got *iso.Match, a, b graph.Graph) {
	t.Helper()
	n := 0
	for x, y := range m {
		if y >= 0 {
			n++
		}
		if got.To(x) != y {
			t.Fatalf("%v, %v: to %d: %d, not %d", a, b, x, got.To(x), y)
		}
	}
	for y := range b.Nodes {
		if x := slices.Index(m, y); got.From(y) != x {
			t.Fatalf("%v, %v: from %d: %d, not %d", a, b, y, got.From(y), x)
		}
	}
	if got.Len() != n {
		t.Fatalf("%v, %v: %d pairs, not %d", a, b, got.Len(), n)
	}
}

// P10.1: joins in any order, of two graphs, held against all matches that there are.
func holdJoins(t *testing.T, r *rand.Rand, a, b graph.Graph, joins int) {
	t.Helper()
	l := all(a, b)
	got := iso.New(a, b)
	now := match(slices.Repeat([]int{-1}, len(a.Nodes)))
	for range joins {
		x, y := r.Intn(len(a.Nodes)), r.Intn(len(b.Nodes))
		asked := slices.Clone(now)
		asked[x] = y
		next, ok := now, false
		// A node that is in another pair can't be in this one, too.
		if now[x] < 0 || now[x] == y {
			if m, found := least(t, l, asked); found {
				next, ok = m, true
			}
		}
		if got.Join(x, y) != ok {
			t.Fatalf("%v, %v, %v: %d and %d: %v", a, b, now, x, y, !ok)
		}
		now = next
		now.is(t, got, a, b)
	}
}

// P10.2, P10.3: of two graphs, held against all matches that there are.
func holdSame(t *testing.T, a, b graph.Graph) {
	t.Helper()
	roots := match(slices.Repeat([]int{-1}, len(a.Nodes)))
	roots[a.Root] = b.Root
	m, ok := least(t, all(a, b), roots)
	var want [][2]int
	if ok {
		for _, x := range a.Reach(a.Root) {
			want = append(want, [2]int{x, m[x]})
		}
	}
	if l, same := iso.Pairs(a, b); same != ok || !slices.Equal(l, want) {
		t.Fatalf("%v, %v: %v, %v, not %v", a, b, l, same, want)
	}
	if iso.Same(a, b) != ok || (iso.Code(a) == iso.Code(b)) != ok {
		t.Fatalf("%v, %v: %v, %q, %q", a, b, ok, iso.Code(a), iso.Code(b))
	}
}

// small are all graphs of two nodes, or one, of which each is some that has up to two edges.
func small() []graph.Graph {
	var l []graph.Graph
	for n := 1; n <= 2; n++ {
		nodes := []graph.Node{str("x"), seq(), tagged("!m", entries(""))}
		for i := range n {
			nodes = append(nodes, seq(i), entries("a", i))
			for j := range n {
				nodes = append(nodes, seq(i, j), entries("b a", i, j))
			}
		}
		for _, first := range nodes {
			if n == 1 {
				l = append(l, of(0, first))
				continue
			}
			for _, second := range nodes {
				l = append(l, of(0, first, second), of(1, first, second))
			}
		}
	}
	return l
}

// P10.2, P10.3: of all pairs of small graphs.
func TestSmall(t *testing.T) {
	l := small()
	for _, a := range l {
		for _, b := range l {
			holdSame(t, a, b)
		}
	}
}

// some is a graph of n nodes, as it falls.
func some(r *rand.Rand, n int) graph.Graph {
	g := graph.Graph{Root: r.Intn(n)}
	edges := 1 + r.Intn(6)
	kinds := 1 + r.Intn(5)
	for range n {
		kids := make([]int, r.Intn(edges))
		for i := range kids {
			kids[i] = r.Intn(n)
		}
		switch r.Intn(kinds) {
		case 0:
			g.Nodes = append(g.Nodes, seq(kids...))
		case 1:
			g.Nodes = append(g.Nodes, entries("", kids...))
			for _, k := range r.Perm(len(kids)) {
				g.Nodes[len(g.Nodes)-1].Keys = append(g.Nodes[len(g.Nodes)-1].Keys, []string{"", "-", "B", "a", "é", "\U00010000"}[k])
			}
		case 2:
			g.Nodes = append(g.Nodes, tagged("!s", seq(kids...)))
		default:
			g.Nodes = append(g.Nodes, str([]string{"x", "y"}[r.Intn(2)]))
		}
	}
	return g
}

// moved is the same graph by other numbers, its entries in another order, with some nodes more;
// and the new number of each node.
func moved(r *rand.Rand, g graph.Graph, more int) (graph.Graph, []int) {
	n := len(g.Nodes) + more
	to := r.Perm(n)
	nodes := make([]graph.Node, n)
	for i := range nodes {
		if i >= len(g.Nodes) {
			nodes[to[i]] = seq(r.Intn(n), r.Intn(n))
			continue
		}
		was := g.Nodes[i]
		o := graph.Node{Kind: was.Kind, Tag: was.Tag, Text: was.Text}
		places := r.Perm(len(was.Kids))
		if was.Kind == graph.Seq {
			slices.Sort(places)
		}
		for _, p := range places {
			o.Kids = append(o.Kids, to[was.Kids[p]])
			if was.Kind == graph.Map {
				o.Keys = append(o.Keys, was.Keys[p])
			}
		}
		nodes[to[i]] = o
	}
	return of(to[g.Root], nodes...), to[:len(g.Nodes)]
}

// P10.1: joins of graphs of a few nodes.
func TestSomeJoins(t *testing.T) {
	r := rand.New(rand.NewSource(10))
	for range 4000 {
		a := some(r, 1+r.Intn(5))
		b := some(r, 1+r.Intn(5))
		if r.Intn(2) == 0 {
			b, _ = moved(r, a, r.Intn(2))
		}
		holdJoins(t, r, a, b, 8)
		holdSame(t, a, b)
	}
}

// changed is a graph with one thing changed of a node; it may still be the same.
func changed(r *rand.Rand, g graph.Graph) graph.Graph {
	g = of(g.Root, slices.Clone(g.Nodes)...)
	i := r.Intn(len(g.Nodes))
	n := g.Nodes[i]
	n.Keys, n.Kids = slices.Clone(n.Keys), slices.Clone(n.Kids)
	switch c := r.Intn(5); {
	case c == 0:
		g.Root = i
	case n.Kind == graph.Scalar && c < 3:
		n.Text += "z"
	case n.Kind == graph.Scalar || c == 1:
		n.Tag = "!z"
	case len(n.Kids) == 0:
		n = str("z")
	case c == 2:
		n.Kids[r.Intn(len(n.Kids))] = r.Intn(len(g.Nodes))
	case c == 3:
		// A node of its own, that looks as the one that was shared.
		k := r.Intn(len(n.Kids))
		g.Nodes = append(g.Nodes, g.Nodes[n.Kids[k]])
		n.Kids[k] = len(g.Nodes) - 1
	case n.Kind == graph.Map:
		n.Keys[r.Intn(len(n.Keys))] = "z"
	default:
		n.Kids = n.Kids[1:]
	}
	g.Nodes[i] = n
	return g
}

// together are the pairs that are met along the same edges of both graphs, in order,
// and whether all of them look alike and no node is in two.
func together(a, b graph.Graph) ([][2]int, bool) {
	var l [][2]int
	ok := true
	var visit func(x, y int)
	visit = func(x, y int) {
		for _, p := range l {
			if p == [2]int{x, y} {
				return
			}
			ok = ok && p[0] != x && p[1] != y
		}
		ok = ok && looksAlike(a.Nodes[x], b.Nodes[y])
		if !ok {
			return
		}
		l = append(l, [2]int{x, y})
		to := b.Edges(y)
		for i, k := range a.Edges(x) {
			visit(k, to[i])
		}
	}
	visit(a.Root, b.Root)
	if !ok {
		return nil, false
	}
	return l, true
}

// P10.2, P10.3, P10.4: of greater graphs, moved, and with one thing changed.
func TestSome(t *testing.T) {
	r := rand.New(rand.NewSource(11))
	same := 0
	for range 4000 {
		a := some(r, 1+r.Intn(20))
		b, to := moved(r, a, r.Intn(3))
		var want [][2]int
		for _, x := range a.Reach(a.Root) {
			want = append(want, [2]int{x, to[x]})
		}
		if l, ok := iso.Pairs(a, b); !ok || !slices.Equal(l, want) || !iso.Same(a, b) || iso.Code(a) != iso.Code(b) {
			t.Fatalf("%v, %v: %v, %v, not %v", a, b, l, ok, want)
		}
		c := changed(r, b)
		want, alike := together(a, c)
		if l, ok := iso.Pairs(a, c); ok != alike || !slices.Equal(l, want) || iso.Same(a, c) != alike || (iso.Code(a) == iso.Code(c)) != alike {
			t.Fatalf("%v, %v: %v, %v, not %v", a, c, l, ok, want)
		}
		if alike {
			same++
		}
		laws(t, a, b, c)
	}
	// Else what was changed tells nothing of one side.
	if same < 400 || same > 3600 {
		t.Errorf("%d are the same", same)
	}
}

// P10.4
func laws(t *testing.T, a, b, c graph.Graph) {
	t.Helper()
	for _, g := range []graph.Graph{a, b, c} {
		if !iso.Same(g, g) || !iso.Same(g, g.Trim()) || !iso.Same(g.Trim(), g) || iso.Code(g) != iso.Code(g.Trim()) {
			t.Fatalf("%v: not the same as itself", g)
		}
		for _, h := range []graph.Graph{a, b, c} {
			if iso.Same(g, h) != iso.Same(h, g) {
				t.Fatalf("%v, %v: not the same both ways round", g, h)
			}
			for _, k := range []graph.Graph{a, b, c} {
				if iso.Same(g, h) && iso.Same(h, k) && !iso.Same(g, k) {
					t.Fatalf("%v, %v, %v: not the same through the second", g, h, k)
				}
			}
		}
	}
}

// P10.4: through a third one, of all small graphs: those that are the same have the same ones.
func TestThrough(t *testing.T) {
	l := small()
	row := func(g graph.Graph) string {
		s := make([]byte, len(l))
		for i, h := range l {
			s[i] = '.'
			if iso.Same(g, h) {
				s[i] = '='
			}
		}
		return string(s)
	}
	rows := make([]string, len(l))
	for i, g := range l {
		rows[i] = row(g)
		if rows[i][i] != '=' {
			t.Fatalf("%v isn't the same as itself", g)
		}
		if s := row(g.Trim()); s != rows[i] {
			t.Fatalf("%v isn't the same, trimmed: %v", g, g.Trim())
		}
	}
	for i := range l {
		for j := range l {
			if (rows[i][j] == '=') != (rows[i] == rows[j]) || rows[i][j] != rows[j][i] {
				t.Fatalf("%v and %v", l[i], l[j])
			}
		}
	}
}
