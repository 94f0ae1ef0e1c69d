package sketch

import (
	"slices"

	"stanhope/graph"
)

// Roomy is a graph whose lists have room behind their ends.
func Roomy() graph.Graph {
	m := Map("b a", 2, 1)
	m.Keys = append(make([]string, 0, 8), m.Keys...)
	m.Kids = append(make([]int, 0, 8), m.Kids...)
	s := Seq(0, 2)
	s.Kids = append(make([]int, 0, 8), s.Kids...)
	return Of(0, append(make([]graph.Node, 0, 8), m, s, Str("x"), Str("y"))...)
}

// Whole are the lists of a graph with the room behind their ends, as they stand now.
func Whole(g graph.Graph) graph.Graph {
	l := slices.Clone(g.Nodes[:cap(g.Nodes)])
	for i, n := range l {
		l[i].Keys = slices.Clone(n.Keys[:cap(n.Keys)])
		l[i].Kids = slices.Clone(n.Kids[:cap(n.Kids)])
	}
	return Of(g.Root, l...)
}

// Equal says whether two graphs are alike, as they stand; nil and empty lists are one.
func Equal(a, b graph.Graph) bool {
	return a.Root == b.Root && slices.EqualFunc(a.Nodes, b.Nodes, equal)
}

// equal says whether two nodes are alike, as they stand.
func equal(a, b graph.Node) bool {
	return a.Kind == b.Kind && a.Tag == b.Tag && a.Text == b.Text && slices.Equal(a.Keys, b.Keys) && slices.Equal(a.Kids, b.Kids)
}

// Scribble writes into all lists of a node, and into the room behind their ends.
func Scribble(n graph.Node) {
	keys, kids := n.Keys[:cap(n.Keys)], n.Kids[:cap(n.Kids)]
	for i := range keys {
		keys[i] = "written"
	}
	for i := range kids {
		kids[i] = 77
	}
}

// ScribbleAll writes into all lists of a graph.
func ScribbleAll(g graph.Graph) {
	for i, n := range g.Nodes {
		Scribble(n)
		g.Nodes[i] = graph.Node{}
	}
}
