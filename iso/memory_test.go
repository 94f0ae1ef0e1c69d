package iso_test

import (
	"slices"
	"testing"

	"stanhope/graph"
	"stanhope/iso"
)

// roomy is a graph whose lists have room behind their ends.
func roomy() graph.Graph {
	m := entries("b a", 2, 1)
	m.Keys = append(make([]string, 0, 8), m.Keys...)
	m.Kids = append(make([]int, 0, 8), m.Kids...)
	s := seq(0, 2)
	s.Kids = append(make([]int, 0, 8), s.Kids...)
	return of(0, append(make([]graph.Node, 0, 8), m, s, str("x"), str("y"))...)
}

// whole are the lists of a graph with the room behind their ends.
func whole(g graph.Graph) graph.Graph {
	l := slices.Clone(g.Nodes[:cap(g.Nodes)])
	for i, n := range l {
		l[i].Keys = slices.Clone(n.Keys[:cap(n.Keys)])
		l[i].Kids = slices.Clone(n.Kids[:cap(n.Kids)])
	}
	return of(g.Root, l...)
}

// equal says whether two nodes are alike, as they stand; nil and empty lists are one.
func equal(a, b graph.Node) bool {
	return a.Kind == b.Kind && a.Tag == b.Tag && a.Text == b.Text && slices.Equal(a.Keys, b.Keys) && slices.Equal(a.Kids, b.Kids)
}

// scribble writes into all lists of a graph.
func scribble(g graph.Graph) {
	for i, n := range g.Nodes {
		for j := range n.Keys {
			n.Keys[j] = "written"
		}
		for j := range n.Kids {
			n.Kids[j] = 77
		}
		g.Nodes[i] = graph.Node{}
	}
}

// R3: what is handed in stays as it is.
func TestHandedIn(t *testing.T) {
	a, b := roomy(), roomy()
	was := whole(a)
	m := iso.New(a, b)
	for x := range a.Nodes {
		for y := range b.Nodes {
			m.Join(x, y)
		}
	}
	iso.Same(a, b)
	iso.Pairs(a, b)
	iso.Code(a)
	iso.Code(b)
	for _, g := range []graph.Graph{a, b} {
		if now := whole(g); now.Root != was.Root || !slices.EqualFunc(now.Nodes, was.Nodes, equal) {
			t.Errorf("%v, not %v", now, was)
		}
	}
}

// R3: what was handed in isn't kept: a match goes on as it was, whatever is written there.
func TestNotKept(t *testing.T) {
	a, b := roomy(), roomy()
	m := iso.New(a, b)
	scribble(a)
	if !m.Join(2, 2) {
		t.Error("a scalar")
	}
	scribble(b)
	if m.Join(0, 1) || m.Join(3, 2) || !m.Join(1, 1) || m.Len() != 3 {
		t.Error("joined", m.Len())
	}
	holds(t, "written", m, [2]int{0, 0}, [2]int{1, 1}, [2]int{2, 2})
}

// R3: nobody keeps what is handed out.
func TestHandedOut(t *testing.T) {
	a, b := roomy(), roomy()
	want := [][2]int{{0, 0}, {1, 1}, {2, 2}}
	for range 2 {
		l, ok := iso.Pairs(a, b)
		if !ok || !slices.Equal(l, want) {
			t.Fatal(l, ok)
		}
		l = l[:cap(l)]
		for i := range l {
			l[i] = [2]int{77, 77}
		}
	}
}

// R5: matches don't hang on one another, and what is told is the same each time.
func TestAgain(t *testing.T) {
	g := of(0, str("x"), str("x"))
	code := iso.Code(g)
	first, second := iso.New(g, g), iso.New(g, g)
	for range 20 {
		if !first.Join(0, 1) || !second.Join(0, 0) || !second.Join(1, 1) {
			t.Fatal("joined")
		}
		holds(t, "first", first, [2]int{0, 1})
		holds(t, "second", second, [2]int{0, 0}, [2]int{1, 1})
		if iso.Code(g) != code {
			t.Fatal(iso.Code(g), code)
		}
	}
}
