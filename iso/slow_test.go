package iso_test

import (
	"math/rand"
	"slices"
	"testing"

	"stanhope/graph"
	"stanhope/iso"
	"stanhope/sketch"
)

// match is of each node of the first graph the one that it is paired with, or -1.
type match []int

// all are all matches of two graphs that may be: of all ways to pair nodes those that are right.
func all(a, b graph.Graph) []match {
	var l []match
	var pick func(m match)
	pick = func(m match) {
		if len(m) == len(a.Nodes) {
			if m.right(a, b) {
				l = append(l, slices.Clone(m))
			}
			return
		}
		for y := -1; y < len(b.Nodes); y++ {
			if y < 0 || !slices.Contains(m, y) {
				pick(append(slices.Clone(m), y))
			}
		}
	}
	pick(nil)
	return l
}

// right says whether each pair is as the chapter asks.
func (m match) right(a, b graph.Graph) bool {
	for x, y := range m {
		if y < 0 {
			continue
		}
		if !sketch.LookAlike(a.Nodes[x], b.Nodes[y]) {
			return false
		}
		to := b.Edges(y)
		for i, k := range a.Edges(x) {
			if m[k] != to[i] {
				return false
			}
		}
	}
	return true
}

// has says whether a match has all pairs of another one.
func (m match) has(o match) bool {
	for x, y := range o {
		if y >= 0 && m[x] != y {
			return false
		}
	}
	return true
}

// least is of some matches the one that has all these pairs, and all of whose pairs each other one has that has them.
func least(t *testing.T, l []match, pairs match) (match, bool) {
	t.Helper()
	var best match
	for _, m := range l {
		if m.has(pairs) && (best == nil || best.has(m)) {
			best = m
		}
	}
	for _, m := range l {
		if m.has(pairs) && !m.has(best) {
			t.Fatalf("%v has %v, but not %v", m, pairs, best)
		}
	}
	return best, best != nil
}

// is asks whether a match is what it should be.
func (m match) is(t *testing.T, got *iso.Match, a, b graph.Graph) {
	t.Helper()
	n := 0
	for x, y := range m {
		if y >= 0 {
			n++
		}
		if got.To(x) != y {
			t.Fatalf("%v, %v: to %d: %d, not %d", a, b, x, got.To(x), y)
		}
	}
	for y := range b.Nodes {
		if x := slices.Index(m, y); got.From(y) != x {
			t.Fatalf("%v, %v: from %d: %d, not %d", a, b, y, got.From(y), x)
		}
	}
	if got.Len() != n {
		t.Fatalf("%v, %v: %d pairs, not %d", a, b, got.Len(), n)
	}
}

// P10.1: joins in any order, of two graphs, held against all matches that there are.
func holdJoins(t *testing.T, pick sketch.Pick, a, b graph.Graph, joins int) {
	t.Helper()
	l := all(a, b)
	got := iso.New(a, b)
	now := match(slices.Repeat([]int{-1}, len(a.Nodes)))
	for range joins {
		x, y := pick(len(a.Nodes)), pick(len(b.Nodes))
		asked := slices.Clone(now)
		asked[x] = y
		next, ok := now, false
		// A node that is in another pair can't be in this one, too.
		if now[x] < 0 || now[x] == y {
			if m, found := least(t, l, asked); found {
				next, ok = m, true
			}
		}
		if got.Join(x, y) != ok {
			t.Fatalf("%v, %v, %v: %d and %d: %v", a, b, now, x, y, !ok)
		}
		now = next
		now.is(t, got, a, b)
	}
}

// P10.2, P10.3: of two graphs, held against all matches that there are.
func holdSame(t *testing.T, a, b graph.Graph) {
	t.Helper()
	roots := match(slices.Repeat([]int{-1}, len(a.Nodes)))
	roots[a.Root] = b.Root
	m, ok := least(t, all(a, b), roots)
	var want [][2]int
	if ok {
		for _, x := range a.Reach(a.Root) {
			want = append(want, [2]int{x, m[x]})
		}
	}
	if l, same := iso.Pairs(a, b); same != ok || !slices.Equal(l, want) {
		t.Fatalf("%v, %v: %v, %v, not %v", a, b, l, same, want)
	}
	if iso.Same(a, b) != ok || (iso.Code(a) == iso.Code(b)) != ok {
		t.Fatalf("%v, %v: %v, %q, %q", a, b, ok, iso.Code(a), iso.Code(b))
	}
}

// P10.2, P10.3: of all pairs of small graphs.
func TestSmall(t *testing.T) {
	l := sketch.Small()
	for _, a := range l {
		for _, b := range l {
			holdSame(t, a, b)
		}
	}
}

// P10.1: joins of graphs of a few nodes.
func TestSomeJoins(t *testing.T) {
	pick := sketch.Pick(rand.New(rand.NewSource(10)).Intn)
	for range 4000 {
		a := pick.Graph(1 + pick(5))
		b := pick.Graph(1 + pick(5))
		if pick(2) == 0 {
			b, _ = pick.Moved(a, pick(2))
		}
		holdJoins(t, pick, a, b, 8)
		holdSame(t, a, b)
	}
}

// together are the pairs that are met along the same edges of both graphs, in order,
// and whether all of them look alike and no node is in two.
func together(a, b graph.Graph) ([][2]int, bool) {
	var l [][2]int
	ok := true
	var visit func(x, y int)
	visit = func(x, y int) {
		for _, p := range l {
			if p == [2]int{x, y} {
				return
			}
			ok = ok && p[0] != x && p[1] != y
		}
		ok = ok && sketch.LookAlike(a.Nodes[x], b.Nodes[y])
		if !ok {
			return
		}
		l = append(l, [2]int{x, y})
		to := b.Edges(y)
		for i, k := range a.Edges(x) {
			visit(k, to[i])
		}
	}
	visit(a.Root, b.Root)
	if !ok {
		return nil, false
	}
	return l, true
}

// P10.2, P10.3, P10.4: of greater graphs, moved, and with one thing changed.
func TestSome(t *testing.T) {
	pick := sketch.Pick(rand.New(rand.NewSource(11)).Intn)
	same := 0
	for range 4000 {
		a := pick.Graph(1 + pick(20))
		b, to := pick.Moved(a, pick(3))
		var want [][2]int
		for _, x := range a.Reach(a.Root) {
			want = append(want, [2]int{x, to[x]})
		}
		if l, ok := iso.Pairs(a, b); !ok || !slices.Equal(l, want) || !iso.Same(a, b) || iso.Code(a) != iso.Code(b) {
			t.Fatalf("%v, %v: %v, %v, not %v", a, b, l, ok, want)
		}
		c := pick.Changed(b)
		want, alike := together(a, c)
		if l, ok := iso.Pairs(a, c); ok != alike || !slices.Equal(l, want) || iso.Same(a, c) != alike || (iso.Code(a) == iso.Code(c)) != alike {
			t.Fatalf("%v, %v: %v, %v, not %v", a, c, l, ok, want)
		}
		if alike {
			same++
		}
		laws(t, a, b, c)
	}
	// Else what was changed tells nothing of one side.
	if same < 400 || same > 3600 {
		t.Errorf("%d are the same", same)
	}
}

// P10.4
func laws(t *testing.T, a, b, c graph.Graph) {
	t.Helper()
	for _, g := range []graph.Graph{a, b, c} {
		if !iso.Same(g, g) || !iso.Same(g, g.Trim()) || !iso.Same(g.Trim(), g) || iso.Code(g) != iso.Code(g.Trim()) {
			t.Fatalf("%v: not the same as itself", g)
		}
		for _, h := range []graph.Graph{a, b, c} {
			if iso.Same(g, h) != iso.Same(h, g) {
				t.Fatalf("%v, %v: not the same both ways round", g, h)
			}
			for _, k := range []graph.Graph{a, b, c} {
				if iso.Same(g, h) && iso.Same(h, k) && !iso.Same(g, k) {
					t.Fatalf("%v, %v, %v: not the same through the second", g, h, k)
				}
			}
		}
	}
}

// P10.4: through a third one, of all small graphs: those that are the same have the same ones.
func TestThrough(t *testing.T) {
	l := sketch.Small()
	row := func(g graph.Graph) string {
		s := make([]byte, len(l))
		for i, h := range l {
			s[i] = '.'
			if iso.Same(g, h) {
				s[i] = '='
			}
		}
		return string(s)
	}
	rows := make([]string, len(l))
	for i, g := range l {
		rows[i] = row(g)
		if rows[i][i] != '=' {
			t.Fatalf("%v isn't the same as itself", g)
		}
		if s := row(g.Trim()); s != rows[i] {
			t.Fatalf("%v isn't the same, trimmed: %v", g, g.Trim())
		}
	}
	for i := range l {
		for j := range l {
			if (rows[i][j] == '=') != (rows[i] == rows[j]) || rows[i][j] != rows[j][i] {
				t.Fatalf("%v and %v", l[i], l[j])
			}
		}
	}
}
