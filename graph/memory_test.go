package graph_test

import (
	"slices"
	"testing"

	"stanhope/sketch"
)

// scribble writes into a list, and into the room behind its end.
func scribble(l []int) {
	l = l[:cap(l)]
	for i := range l {
		l[i] = 77
	}
}

// R3: what is handed in stays as it is, whatever is written into what is handed out.
func TestHandedIn(t *testing.T) {
	g := sketch.Roomy()
	was := sketch.Whole(g)
	g.Check()
	for n := range g.Nodes {
		scribble(g.Edges(n))
		scribble(g.Reach(n))
		g.Cyclic(n)
	}
	scribble(g.In())
	for _, n := range g.Trim().Nodes {
		scribble(n.Kids)
		for i := range n.Keys {
			n.Keys[i] = "written"
		}
	}
	if now := sketch.Whole(g); !sketch.Equal(now, was) {
		t.Errorf("%v, not %v", now, was)
	}
}

// R3: the lists of what is trimmed share nothing with one another, even if they did so.
func TestHandedOut(t *testing.T) {
	all := []int{2, 2, 2, 2}
	g := of(0, entries("a b", 1, 1), seq(2, 3), seq(3, 0), str("x"))
	g.Nodes[2].Kids = all[:2]
	g.Nodes[1].Kids = all[:4]
	x := g.Trim()
	want := sketch.Whole(x).Nodes
	for i, n := range x.Nodes {
		scribble(n.Kids)
		for j := range n.Keys {
			n.Keys[j] = "written"
		}
		for j := i + 1; j < len(x.Nodes); j++ {
			if !slices.Equal(x.Nodes[j].Kids, want[j].Kids[:len(x.Nodes[j].Kids)]) || !slices.Equal(x.Nodes[j].Keys, want[j].Keys[:len(x.Nodes[j].Keys)]) {
				t.Errorf("node %d is written into with node %d", j, i)
			}
		}
	}
}

// R5: what is told of a graph is the same each time.
func TestAgain(t *testing.T) {
	g := sketch.Roomy()
	for range 20 {
		if l := g.Reach(0); !slices.Equal(l, []int{0, 1, 2}) {
			t.Fatal(l)
		}
		if !sketch.Equal(g.Trim(), of(0, entries("a b", 1, 2), seq(0, 2), str("x"))) {
			t.Fatal(g.Trim())
		}
	}
}
