package emit_test

import (
	"testing"

	"stanhope/emit"
	"stanhope/graph"
	"stanhope/sketch"
)

// R3: what is handed in stays as it is, with the room behind its end.
func TestHandedIn(t *testing.T) {
	l := append(make([]graph.Graph, 0, 8), sketch.Roomy(), sketch.Roomy(), sketch.Roomy())
	l[1].Root = 1
	l[1].Nodes[1].Kids[0] = 1
	l[2].Nodes[2].Tag = "!"
	var was []graph.Graph
	for _, g := range l {
		was = append(was, sketch.Whole(g))
	}
	emit.Docs(l...)
	emit.Docs(l[:2]...)
	for i, g := range l {
		emit.Graph(g)
		if now := sketch.Whole(g); g.Root != was[i].Root || !sketch.Equal(now, was[i]) {
			t.Errorf("%v, not %v", now, was[i])
		}
	}
	for _, g := range l[3:cap(l)] {
		if len(g.Nodes) > 0 || g.Root != 0 {
			t.Error(g)
		}
	}
}

// R5: what is told is the same each time, whatever is asked between.
func TestAgain(t *testing.T) {
	const want = "&a1\na: y\nb: &a2\n  - *a1\n  - *a2\n"
	g := sketch.Of(3, sketch.Str("z"), sketch.Str("y"), sketch.Seq(3, 2), sketch.Map("b a", 2, 1))
	for range 20 {
		if got := asked(t, g); got != want {
			t.Fatal(got)
		}
		emit.Graph(sketch.Chain(70))
		emit.Docs(g, sketch.Of(0))
	}
}
