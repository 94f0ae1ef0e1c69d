package graph_test

import (
	"slices"
	"testing"

	"stanhope/graph"
)

// roomy is a graph whose lists have room behind their ends.
func roomy() graph.Graph {
	m := entries("b a", 2, 1)
	m.Keys = append(make([]string, 0, 8), m.Keys...)
	m.Kids = append(make([]int, 0, 8), m.Kids...)
	s := seq(0, 2)
	s.Kids = append(make([]int, 0, 8), s.Kids...)
	return of(0, append(make([]graph.Node, 0, 8), m, s, str("x"), str("y"))...)
}

// whole are the lists of a graph with the room behind their ends.
func whole(g graph.Graph) graph.Graph {
	l := slices.Clone(g.Nodes[:cap(g.Nodes)])
	for i, n := range l {
		l[i].Keys = slices.Clone(n.Keys[:cap(n.Keys)])
		l[i].Kids = slices.Clone(n.Kids[:cap(n.Kids)])
	}
	return of(g.Root, l...)
}

// scribble writes into a list, and into the room behind its end.
func scribble(l []int) {
	l = l[:cap(l)]
	for i := range l {
		l[i] = 77
	}
}

// R3: what is handed in stays as it is, whatever is written into what is handed out.
func TestHandedIn(t *testing.T) {
	g := roomy()
	was := whole(g)
	g.Check()
	for n := range g.Nodes {
		scribble(g.Edges(n))
		scribble(g.Reach(n))
		g.Cyclic(n)
	}
	scribble(g.In())
	for _, n := range g.Trim().Nodes {
		scribble(n.Kids)
		for i := range n.Keys {
			n.Keys[i] = "written"
		}
	}
	if now := whole(g); now.Root != was.Root || !slices.EqualFunc(now.Nodes, was.Nodes, equal) {
		t.Errorf("%v, not %v", now, was)
	}
}

// R3: the lists of what is trimmed share nothing with one another, even if they did so.
func TestHandedOut(t *testing.T) {
	all := []int{2, 2, 2, 2}
	g := of(0, entries("a b", 1, 1), seq(2, 3), seq(3, 0), str("x"))
	g.Nodes[2].Kids = all[:2]
	g.Nodes[1].Kids = all[:4]
	x := g.Trim()
	want := whole(x).Nodes
	for i, n := range x.Nodes {
		scribble(n.Kids)
		for j := range n.Keys {
			n.Keys[j] = "written"
		}
		for j := i + 1; j < len(x.Nodes); j++ {
			if !slices.Equal(x.Nodes[j].Kids, want[j].Kids[:len(x.Nodes[j].Kids)]) || !slices.Equal(x.Nodes[j].Keys, want[j].Keys[:len(x.Nodes[j].Keys)]) {
				t.Errorf("node %d is written into with node %d", j, i)
			}
		}
	}
}

// R5: what is told of a graph is the same each time.
func TestAgain(t *testing.T) {
	g := roomy()
	for range 20 {
		if l := g.Reach(0); !slices.Equal(l, []int{0, 1, 2}) {
			t.Fatal(l)
		}
		if !slices.EqualFunc(g.Trim().Nodes, of(0, entries("a b", 1, 2), seq(0, 2), str("x")).Nodes, equal) {
			t.Fatal(g.Trim())
		}
	}
}
