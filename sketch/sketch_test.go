package sketch_test

import (
	"math/rand"
	"slices"
	"testing"

	"stanhope/graph"
	"stanhope/iso"
	"stanhope/sketch"
)

func TestParts(t *testing.T) {
	g := sketch.Of(1, sketch.Str("x"), sketch.Map("b a", 0, 2), sketch.Seq(0, 0), sketch.Tagged("!k", sketch.Keyed("a b", 1)), sketch.Scalar("int", "1"))
	if f := g.Check(); f.Bad() || g.Root != 1 || len(g.Nodes) != 5 {
		t.Error(f, f.At)
	}
	if l := sketch.Loop(3).Reach(1); !slices.Equal(l, []int{1, 2, 0}) {
		t.Error(l)
	}
	if c := sketch.Chain(3); len(c.Nodes) != 3 || c.Cyclic(0) || len(c.Reach(0)) != 3 {
		t.Error(c)
	}
	if c := sketch.Chain(3, 1, 2); !slices.Equal(c.Edges(2), []int{1, 2}) {
		t.Error(c)
	}
}

func TestMayNot(t *testing.T) {
	for i, g := range sketch.MayNot() {
		if !g.Check().Bad() {
			t.Errorf("%d may be", i)
		}
	}
	for i, g := range sketch.Small() {
		if g.Check().Bad() {
			t.Errorf("small one %d may not be", i)
		}
	}
}

func TestLookAlike(t *testing.T) {
	for i, n := range sketch.Looks() {
		if f := sketch.Of(0, n, n, n, n, n).Check(); f.Bad() {
			t.Error(n)
		}
		for j, o := range sketch.Looks() {
			if sketch.LookAlike(n, o) != (i == j) {
				t.Error(n, o)
			}
		}
	}
	if !sketch.LookAlike(sketch.Map("a b", 0, 1), sketch.Map("b a", 0, 1)) {
		t.Error("keys that stand otherwise")
	}
}

func TestPick(t *testing.T) {
	pick := sketch.Pick(rand.New(rand.NewSource(1)).Intn)
	same := 0
	for range 500 {
		g := pick.Graph(1 + pick(9))
		was := sketch.Whole(g)
		m, to := pick.Moved(g, pick(3))
		if g.Check().Bad() || len(to) != len(g.Nodes) || m.Root != to[g.Root] || !iso.Same(g, m) {
			t.Fatal(g, m, to)
		}
		c := pick.Changed(g)
		if c.Check().Bad() || !sketch.Equal(sketch.Whole(g), was) {
			t.Fatal(g, c)
		}
		if iso.Same(g, c) {
			same++
		}
	}
	if same < 50 || same > 450 {
		t.Error(same)
	}
}

func TestMemory(t *testing.T) {
	g := sketch.Roomy()
	was := sketch.Whole(g)
	if len(was.Nodes) <= len(g.Nodes) || len(was.Nodes[0].Keys) <= 2 || !sketch.Equal(g, sketch.Roomy()) || sketch.Equal(g, was) {
		t.Error(g, was)
	}
	sketch.Scribble(g.Nodes[0])
	if now := sketch.Whole(g); sketch.Equal(now, was) || slices.Contains(now.Nodes[0].Keys, "") || !sketch.Equal(sketch.Of(0, now.Nodes[1]), sketch.Of(0, was.Nodes[1])) {
		t.Error(now)
	}
	sketch.ScribbleAll(g)
	if !sketch.Equal(g, sketch.Of(0, make([]graph.Node, 4)...)) {
		t.Error(g)
	}
}
