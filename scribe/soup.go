package scribe

import (
	"slices"
	"strings"

	"stanhope/graph"
	"stanhope/load"
	"stanhope/sketch"
)

// words are what stands in documents of types and lenses.
const words = "enum list keyed by union record rest tag null bool int str dag any t id copy compose const view default project keep rename hoist plunge lift sink into keys filter map items on fill key value translate use source lens types lenses f k a a? b ? 1 true !a seq"

// scalar is a scalar as it falls.
func (p Pen) scalar() graph.Node {
	l := strings.Fields(words)
	switch p.pick(8) {
	case 0:
		return sketch.Scalar("null", "")
	case 1:
		return sketch.Scalar("int", "7")
	case 2:
		return sketch.Scalar("!a", "a")
	case 3:
		return sketch.Str([]string{"", "no name", ".int", "t"}[p.pick(4)])
	}
	return sketch.Str(l[p.pick(len(l))])
}

// Soup is a document of n nodes, as it falls: scalars, sequences, and mappings of some rows of
// keys with blanks between them; it may be wrong wherever, and stand within itself.
func (p Pen) Soup(n int, rows ...string) load.Doc {
	g := graph.Graph{Root: p.pick(n)}
	for range n {
		x := p.scalar()
		switch p.pick(6) {
		case 0, 1:
			x = sketch.Seq()
			for range p.pick(4) {
				x.Kids = append(x.Kids, p.pick(n))
			}
		case 2, 3, 4:
			x = sketch.Map(rows[p.pick(len(rows))])
			for range x.Keys {
				x.Kids = append(x.Kids, p.pick(n))
			}
			mix(p, x.Keys)
		}
		g.Nodes = append(g.Nodes, x)
	}
	return Placed(g)
}

// Placed is a graph as a document whose nodes stand at 100, 107, 114 and so on.
func Placed(g graph.Graph) load.Doc {
	d := load.Doc{Graph: g}
	for i := range g.Nodes {
		d.At = append(d.At, 100+7*i)
	}
	return d
}

// Spoiled is a graph with one thing of a node changed, which may be wrong then, or may not be.
func (p Pen) Spoiled(g graph.Graph) graph.Graph {
	g.Nodes = slices.Clone(g.Nodes)
	n := &g.Nodes[p.pick(len(g.Nodes))]
	n.Keys, n.Kids = slices.Clone(n.Keys), slices.Clone(n.Kids)
	l := strings.Fields(words)
	switch c := p.pick(8); {
	case n.Kind == graph.Scalar || c == 0:
		*n = p.scalar()
	case c == 1:
		n.Tag = []string{"seq", "map", "!a"}[p.pick(3)]
	case c == 2 || len(n.Kids) == 0:
		n.Kids = append(n.Kids, p.pick(len(g.Nodes)))
		if n.Kind == graph.Map {
			n.Keys = append(n.Keys, l[p.pick(len(l))])
		}
	case c == 3 || c == 4:
		k := p.pick(len(n.Kids))
		n.Kids = slices.Delete(n.Kids, k, k+1)
		if n.Kind == graph.Map {
			n.Keys = slices.Delete(n.Keys, k, k+1)
		}
	case c == 5 && n.Kind == graph.Map:
		n.Keys[p.pick(len(n.Keys))] = l[p.pick(len(l))]
	default:
		n.Kids[p.pick(len(n.Kids))] = p.pick(len(g.Nodes))
	}
	return g
}
