package unfold_test

import (
	"testing"

	"stanhope/graph"
	"stanhope/sketch"
	"stanhope/unfold"
)

// shared is a graph without a cycle whose lists have room behind their ends, some the same for two nodes,
// of which edges lead to one more than once.
func shared() graph.Graph {
	g := sketch.Roomy()
	g.Nodes[1].Kids[0] = 3
	g.Nodes = append(g.Nodes[:4:4], g.Nodes[0], seq(0, 4, 1, 1, 4))
	g.Root = 5
	return g
}

// R3: what is handed in stays as it is, whatever is written into what is handed out.
func TestHandedIn(t *testing.T) {
	for _, g := range []graph.Graph{sketch.Roomy(), shared()} {
		was := sketch.Whole(g)
		unfold.Size(g)
		unfold.Alike(g, g)
		sketch.ScribbleAll(unfold.Fold(g))
		x, _ := unfold.Tree(g)
		sketch.ScribbleAll(x)
		if now := sketch.Whole(g); !sketch.Equal(now, was) {
			t.Errorf("%v, not %v", now, was)
		}
	}
}

// R3: the lists of what is handed out share nothing with one another.
func TestHandedOut(t *testing.T) {
	tree, f := unfold.Tree(shared())
	if f.Bad() {
		t.Fatal(f)
	}
	for _, x := range []graph.Graph{unfold.Fold(sketch.Roomy()), unfold.Fold(shared()), tree} {
		want := sketch.Whole(x)
		for i, n := range x.Nodes {
			sketch.Scribble(n)
			x.Nodes[i], want.Nodes[i] = graph.Node{}, graph.Node{}
			now := sketch.Whole(x)
			for j := range x.Nodes {
				if !sketch.Equal(of(0, now.Nodes[j]), of(0, want.Nodes[j])) {
					t.Fatalf("node %d is written into with node %d", j, i)
				}
			}
		}
	}
}

// R5: what is told is the same each time.
func TestAgain(t *testing.T) {
	g := shared()
	fold := of(0, seq(1, 1, 2, 2, 1), entries("a b", 2, 4), seq(3, 4), str("y"), str("x"))
	for range 20 {
		if x := unfold.Fold(g); !sketch.Equal(x, fold) {
			t.Fatal(x)
		}
		if n, ok := unfold.Size(g); n != 22 || !ok {
			t.Fatal(n, ok)
		}
		if x, f := unfold.Tree(g); f.Bad() || len(x.Nodes) != 22 || !unfold.Alike(x, g) {
			t.Fatal(x, f)
		}
	}
}
