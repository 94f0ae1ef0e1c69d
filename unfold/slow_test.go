package unfold_test

import (
	"math/rand"
	"slices"
	"testing"

	"stanhope/api"
	"stanhope/graph"
	"stanhope/iso"
	"stanhope/sketch"
	"stanhope/unfold"
)

// oneKind says of all nodes of two graphs that may be which ones are of one kind: all are, but those that
// don't look alike, and those of which an edge leads to two that aren't.
func oneKind(a, b graph.Graph) [][]bool {
	l := make([][]bool, len(a.Nodes))
	from, to := allEdges(a), allEdges(b)
	for x, n := range a.Nodes {
		for _, o := range b.Nodes {
			l[x] = append(l[x], sketch.LookAlike(n, o))
		}
	}
	for again := true; again; {
		again = false
		for x := range l {
			for y := range l[x] {
				for i := 0; l[x][y] && i < len(from[x]); i++ {
					if !l[from[x][i]][to[y][i]] {
						l[x][y], again = false, true
					}
				}
			}
		}
	}
	return l
}

// allEdges are the edges of each node.
func allEdges(g graph.Graph) [][]int {
	var l [][]int
	for n := range g.Nodes {
		l = append(l, g.Edges(n))
	}
	return l
}

// holdFold asks whether a graph is another one, folded: whether it is trimmed, each of its nodes is of one
// kind with some that is reached, each of these with one of it, and its root with the root.
func holdFold(t *testing.T, g, x graph.Graph) {
	t.Helper()
	if f := x.Check(); f.Bad() || !sketch.Equal(x, x.Trim()) {
		t.Fatalf("%v: folded %v, %v at %d", g, x, f, f.At)
	}
	kind := oneKind(g, x)
	met := make([]bool, len(x.Nodes))
	for _, n := range g.Reach(g.Root) {
		count := 0
		for y, is := range kind[n] {
			if is {
				count++
				met[y] = true
			}
		}
		if count != 1 {
			t.Fatalf("%v: folded %v: %d of one kind with node %d", g, x, count, n)
		}
	}
	if !kind[g.Root][0] || slices.Contains(met, false) {
		t.Fatalf("%v: folded %v: the root is one %v, met %v", g, x, kind[g.Root][0], met)
	}
}

// most is how many nodes are counted slowly.
const most = 5000

// ways are the ends of all ways from a node, each behind that which is ahead of it by an edge, in the order
// of the first visit; and the place of that one. False, if there are more than most.
func ways(edges [][]int, root int) (ends, ahead []int, ok bool) {
	type way struct{ end, ahead int }
	for todo := []way{{root, -1}}; len(todo) > 0; {
		w := todo[len(todo)-1]
		todo = todo[:len(todo)-1]
		if len(ends) == most {
			return nil, nil, false
		}
		for _, k := range slices.Backward(edges[w.end]) {
			todo = append(todo, way{k, len(ends)})
		}
		ends, ahead = append(ends, w.end), append(ahead, w.ahead)
	}
	return ends, ahead, true
}

// slowTree is the graph of all ways.
func slowTree(g graph.Graph, ends, ahead []int) graph.Graph {
	x := of(0)
	for i, n := range ends {
		was := g.Nodes[n]
		x.Nodes = append(x.Nodes, graph.Node{Kind: was.Kind, Tag: was.Tag, Text: was.Text, Keys: slices.Sorted(slices.Values(was.Keys))})
		if i > 0 {
			x.Nodes[ahead[i]].Kids = append(x.Nodes[ahead[i]].Kids, i)
		}
	}
	return x
}

// holdTree asks for size and tree of a graph, and P11.4 of these.
func holdTree(t *testing.T, g graph.Graph) {
	t.Helper()
	size, told := unfold.Size(g)
	x, f := unfold.Tree(g)
	if g.Cyclic(g.Root) {
		if size != 0 || told || f != (api.Fault{Errno: api.ErrCycle, At: g.Root}) || len(x.Nodes) != 0 {
			t.Fatalf("%v: size %d, %v, tree %v, %v at %d", g, size, told, x, f, f.At)
		}
		return
	}
	ends, ahead, ok := ways(allEdges(g), g.Root)
	if !ok || len(ends) > 4096 {
		if told && size <= 4096 || ok && size != len(ends) || f != (api.Fault{Errno: api.ErrNodes, At: 4096}) || len(x.Nodes) != 0 {
			t.Fatalf("%v: size %d, %v, not %d, %v; tree %v, %v at %d", g, size, told, len(ends), ok, x, f, f.At)
		}
		return
	}
	if size != len(ends) || !told {
		t.Fatalf("%v: size %d, %v, not %d", g, size, told, len(ends))
	}
	if want := slowTree(g, ends, ahead); f.Bad() || !sketch.Equal(x, want) {
		t.Fatalf("%v: tree %v, %v at %d, not %v", g, x, f, f.At, want)
	}
	if !unfold.Alike(g, x) || len(x.Nodes) != size || slices.ContainsFunc(x.In(), func(n int) bool { return n != 1 }) {
		t.Fatalf("%v: tree %v, alike %v, in %v", g, x, unfold.Alike(g, x), x.In())
	}
	if again, f := unfold.Tree(x); f.Bad() || !sketch.Equal(again, x) {
		t.Fatalf("%v: tree %v, then %v", g, x, again)
	}
}

// hold asks all that there is to ask of a graph that may be.
func hold(t *testing.T, g graph.Graph) {
	t.Helper()
	x := unfold.Fold(g)
	holdFold(t, g, x)
	if !unfold.Alike(g, x) || !unfold.Alike(x, g) || !unfold.Alike(g, g) || !sketch.Equal(unfold.Fold(x), x) {
		t.Fatalf("%v: folded %v, then %v", g, x, unfold.Fold(x))
	}
	holdTree(t, g)
}

// holdAlike asks whether two graphs that may be are alike, and P11.4 of both.
func holdAlike(t *testing.T, a, b graph.Graph) bool {
	t.Helper()
	want := oneKind(a, b)[a.Root][b.Root]
	if unfold.Alike(a, b) != want || unfold.Alike(b, a) != want {
		t.Fatalf("%v, %v: alike %v", a, b, !want)
	}
	if iso.Same(unfold.Fold(a), unfold.Fold(b)) != want {
		t.Fatalf("%v, %v: folded the same %v", a, b, !want)
	}
	if iso.Same(a, b) && !want {
		t.Fatalf("%v, %v: the same, but not alike", a, b)
	}
	return want
}

// P11.1 to P11.4: of all small graphs, and all pairs of them.
func TestSmall(t *testing.T) {
	l := sketch.Small()
	for _, a := range l {
		hold(t, a)
		for _, b := range l {
			holdAlike(t, a, b)
		}
	}
}

// spread is an alike graph, in which each node stands as often as it falls, and each edge leads to any of
// those that stand for the one that it led to.
func spread(pick sketch.Pick, g graph.Graph) graph.Graph {
	var stands []int
	at := make([][]int, len(g.Nodes))
	for n := range g.Nodes {
		for range 1 + pick(3) {
			at[n] = append(at[n], len(stands))
			stands = append(stands, n)
		}
	}
	x := of(at[g.Root][0])
	for _, n := range stands {
		o := g.Nodes[n]
		o.Kids = slices.Clone(o.Kids)
		for i, k := range o.Kids {
			o.Kids[i] = at[k][pick(len(at[k]))]
		}
		x.Nodes = append(x.Nodes, o)
	}
	return x
}

// P11.1 to P11.4: of greater graphs, moved, spread, and with one thing changed.
func TestSome(t *testing.T) {
	pick := sketch.Pick(rand.New(rand.NewSource(12)).Intn)
	alike := 0
	for range 3000 {
		a := pick.Graph(1 + pick(12))
		b, _ := pick.Moved(a, pick(3))
		b = spread(pick, b)
		hold(t, a)
		hold(t, b)
		if !holdAlike(t, a, b) {
			t.Fatalf("%v, %v: not alike, though spread", a, b)
		}
		if holdAlike(t, a, pick.Changed(b)) {
			alike++
		}
	}
	// Else what was changed tells nothing of one side.
	if alike < 300 || alike > 2700 {
		t.Errorf("%d are alike", alike)
	}
}

// fall is a graph in which edges lead on to nodes with greater numbers only.
func fall(pick sketch.Pick, n int) graph.Graph {
	g := pick.Graph(n)
	for i, o := range g.Nodes[:n-1] {
		for j := range o.Kids {
			o.Kids[j] = i + 1 + pick(n-1-i)
		}
	}
	g.Nodes[n-1] = str("z")
	g.Root = pick(1 + n/3)
	return g
}

// P11.1 to P11.4: of graphs without cycles.
func TestFalls(t *testing.T) {
	pick := sketch.Pick(rand.New(rand.NewSource(13)).Intn)
	trees := 0
	for range 3000 {
		a, _ := pick.Moved(fall(pick, 1+pick(12)), pick(3))
		hold(t, a)
		if x, f := unfold.Tree(a); !f.Bad() && len(x.Nodes) > len(a.Nodes) {
			trees++
		}
		holdAlike(t, a, pick.Changed(a))
	}
	if trees < 300 {
		t.Errorf("%d are greater as trees", trees)
	}
}

// P11.2, P11.4: of loops of marks, of all lengths up to some; two are alike, if they repeat the same marks.
func TestMarks(t *testing.T) {
	var l []string
	for n := 1; n <= 6; n++ {
		for bits := range 1 << n {
			marks := make([]byte, n)
			for i := range marks {
				marks[i] = "ab"[bits>>i&1]
			}
			l = append(l, string(marks))
		}
	}
	for _, a := range l {
		x := unfold.Fold(marked(a))
		if shortest := repeated(a); !sketch.Equal(x, marked(shortest)) {
			t.Errorf("%s: folded %v, not %s", a, x, shortest)
		}
		for _, b := range l {
			if unfold.Alike(marked(a), marked(b)) != (repeated(a) == repeated(b)) {
				t.Errorf("%s and %s", a, b)
			}
		}
	}
}

// repeated is the shortest text that, repeated, is a text.
func repeated(s string) string {
	for n := 1; ; n++ {
		if len(s)%n == 0 && s[n:] == s[:len(s)-n] {
			return s[:n]
		}
	}
}
