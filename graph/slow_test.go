package graph_test

import (
	"iter"
	"math/rand"
	"slices"
	"testing"
	"unicode/utf8"

	"stanhope/api"
	"stanhope/graph"
	"stanhope/resolve"
	"stanhope/sketch"
)

// slow tells of a graph that may be what the chapter says, by other means.
type slow struct {
	graph.Graph
	edges [][]int  // of each node
	paths [][]bool // whether edges, one or more, lead from one node to another
}

func slowly(g graph.Graph) slow {
	s := slow{Graph: g}
	for _, n := range g.Nodes {
		s.edges = append(s.edges, slowEdges(n))
		s.paths = append(s.paths, make([]bool, len(g.Nodes)))
	}
	for from, l := range s.edges {
		for _, to := range l {
			s.paths[from][to] = true
		}
	}
	for over := range g.Nodes {
		for from := range g.Nodes {
			for to := range g.Nodes {
				s.paths[from][to] = s.paths[from][to] || s.paths[from][over] && s.paths[over][to]
			}
		}
	}
	return s
}

// slowEdges picks the least key that isn't picked yet, again and again.
func slowEdges(n graph.Node) []int {
	if n.Kind != graph.Map {
		return n.Kids
	}
	var l []int
	keys, kids := slices.Clone(n.Keys), slices.Clone(n.Kids)
	for len(keys) > 0 {
		i := slices.Index(keys, slices.Min(keys))
		l = append(l, kids[i])
		keys, kids = slices.Delete(keys, i, i+1), slices.Delete(kids, i, i+1)
	}
	return l
}

// reach is what is reached from a node, by a list of what is to be visited, the next one at its end.
func (s slow) reach(n int) []int {
	var l []int
	for todo := []int{n}; len(todo) > 0; {
		n, todo = todo[len(todo)-1], todo[:len(todo)-1]
		if slices.Contains(l, n) {
			continue
		}
		l = append(l, n)
		for _, k := range slices.Backward(s.edges[n]) {
			todo = append(todo, k)
		}
	}
	return l
}

// reaches says whether a node reaches another, or is it.
func (s slow) reaches(n, m int) bool { return n == m || s.paths[n][m] }

func (s slow) cyclic(n int) bool {
	for m := range s.Nodes {
		if s.reaches(n, m) && s.paths[m][m] {
			return true
		}
	}
	return false
}

func (s slow) in() []int {
	l := make([]int, len(s.Nodes))
	l[s.Root]++
	for n := range s.Nodes {
		for m := range s.Nodes {
			if s.reaches(s.Root, n) {
				l[m] += len(slices.DeleteFunc(slices.Clone(s.edges[n]), func(k int) bool { return k != m }))
			}
		}
	}
	return l
}

// hold asks all that there is to ask of a graph that may be.
func (s slow) hold(t *testing.T) {
	t.Helper()
	if f := s.Check(); f != (api.Fault{}) {
		t.Fatalf("%v: %v at %d", s.Graph, f, f.At)
	}
	for n := range s.Nodes {
		if l := s.Edges(n); !slices.Equal(l, s.edges[n]) {
			t.Fatalf("%v: edges of %d: %v, not %v", s.Graph, n, l, s.edges[n])
		}
		if l := s.Reach(n); !slices.Equal(l, s.reach(n)) {
			t.Fatalf("%v: reach of %d: %v, not %v", s.Graph, n, l, s.reach(n))
		}
		for m := range s.Nodes {
			if slices.Contains(s.Reach(n), m) != s.reaches(n, m) {
				t.Fatalf("%v: %d reaches %d: %v", s.Graph, n, m, s.reaches(n, m))
			}
		}
		if c := s.Cyclic(n); c != s.cyclic(n) {
			t.Fatalf("%v: %d cyclic: %v", s.Graph, n, c)
		}
	}
	if l := s.In(); !slices.Equal(l, s.in()) {
		t.Fatalf("%v: in %v, not %v", s.Graph, l, s.in())
	}
	s.holdTrim(t)
}

// P9.3, P9.4
func (s slow) holdTrim(t *testing.T) {
	t.Helper()
	x := s.Trim()
	reach := s.reach(s.Root)
	if f := x.Check(); f.Bad() || x.Root != 0 || len(x.Nodes) != len(reach) {
		t.Fatalf("%v: trimmed %v: %v", s.Graph, x, f)
	}
	for i, n := range x.Nodes {
		was := s.Nodes[reach[i]]
		var kids []int
		for _, k := range n.Kids {
			kids = append(kids, reach[k])
		}
		keys := slices.Sorted(slices.Values(was.Keys))
		if n.Kind != was.Kind || n.Tag != was.Tag || n.Text != was.Text || !slices.Equal(n.Keys, keys) || !slices.Equal(kids, s.edges[reach[i]]) {
			t.Fatalf("%v: trimmed %v: node %d", s.Graph, x, i)
		}
	}
	if again := x.Trim(); !sketch.Equal(again, x) {
		t.Fatalf("%v: trimmed %v, then %v", s.Graph, x, again)
	}
}

// nodes are all nodes of a graph of n nodes that have up to two edges.
func nodes(n int) []graph.Node {
	l := []graph.Node{str("x"), seq(), tagged("!m", entries(""))}
	for i := range n {
		l = append(l, seq(i), entries("a", i))
		for j := range n {
			l = append(l, tagged("!s", seq(i, j)), entries("a b", i, j), entries("b a", i, j))
		}
	}
	return l
}

// graphs are all graphs of n of the nodes.
func graphs(n int, l []graph.Node) iter.Seq[graph.Graph] {
	return func(yield func(graph.Graph) bool) {
		picked := make([]int, n)
		for {
			var g graph.Graph
			for _, p := range picked {
				g.Nodes = append(g.Nodes, l[p])
			}
			for g.Root = range n {
				if !yield(g) {
					return
				}
			}
			i := 0
			for i < n && picked[i] == len(l)-1 {
				picked[i] = 0
				i++
			}
			if i == n {
				return
			}
			picked[i]++
		}
	}
}

// P9.1 to P9.4: of all small graphs.
func TestSmall(t *testing.T) {
	for n := 1; n <= 3; n++ {
		for g := range graphs(n, nodes(n)) {
			slowly(g).hold(t)
		}
	}
}

// P9.1 to P9.4: of greater graphs.
func TestSome(t *testing.T) {
	pick := sketch.Pick(rand.New(rand.NewSource(9)).Intn)
	for range 3000 {
		slowly(pick.Graph(1 + pick(20))).hold(t)
	}
}

// right says of a node what the chapter says of it, in a graph of two.
func right(n graph.Node) bool {
	own := n.Tag == "!a"
	for i, k := range n.Keys {
		if slices.Contains(n.Keys[:i], k) || !utf8.ValidString(k) || len(k) > 1024 {
			return false
		}
	}
	for _, k := range n.Kids {
		if k != 0 && k != 1 {
			return false
		}
	}
	switch n.Kind {
	case graph.Scalar:
		return resolve.Right(n.Tag, n.Text) && len(n.Keys)+len(n.Kids) == 0
	case graph.Seq:
		return (own || n.Tag == "seq") && n.Text == "" && len(n.Keys) == 0
	case graph.Map:
		return (own || n.Tag == "map") && n.Text == "" && len(n.Keys) == len(n.Kids)
	}
	return false
}

// P9.1: of all nodes whose parts are some that are right for one kind or for none.
func TestNodes(t *testing.T) {
	long := []string{a(1024), a(1025)}
	for kind := graph.Kind(-1); kind < 5; kind++ {
		for _, tag := range []string{"", "null", "bool", "int", "str", "seq", "map", "!a", "!", "a"} {
			for _, text := range append(long, "", "1", "true", "x", "\xff") {
				for _, keys := range [][]string{nil, {}, {"a"}, {"b", "a"}, {"a", "a"}, {"b", "a", "b"}, {"\xff"}, long[:1], long[1:]} {
					for _, kids := range [][]int{nil, {}, {0}, {1, 1}, {0, 1, 0}, {-1}, {2}, {1, 2}} {
						n := graph.Node{Kind: kind, Tag: tag, Text: text, Keys: keys, Kids: kids}
						var want api.Fault
						if !right(n) {
							want = shape(1)
						}
						if f := of(0, str(""), n).Check(); f != want {
							t.Fatalf("%.300v: %v at %d", n, f, f.At)
						}
					}
				}
			}
		}
	}
}

// P9.1, P9.2, P9.3: many edges, and many nodes that all are gone through at once.
func TestMany(t *testing.T) {
	all := upTo(4096)
	g := of(4095, slices.Repeat([]graph.Node{seq(all...)}, 4096)...)
	if l := g.In(); !slices.Equal(l, append(slices.Repeat([]int{4096}, 4095), 4097)) {
		t.Errorf("in %.300v", l)
	}
	if l := g.Reach(4095); !slices.Equal(l, append([]int{4095}, all[:4095]...)) {
		t.Errorf("reach %.300v", l)
	}
	many := of(0, seq(slices.Repeat([]int{1, 2}, 1<<20)...), str("x"), str("y"))
	if l := many.In(); !slices.Equal(l, []int{1, 1 << 20, 1 << 20}) || many.Cyclic(0) {
		t.Error(l)
	}
}
