// Package sketch makes the nodes and graphs of which the layers' tests ask everything.
package sketch

import (
	"math"
	"slices"
	"strings"

	"stanhope/graph"
)

// Str is a scalar.
func Str(s string) graph.Node { return Scalar("str", s) }

// Scalar is a scalar of a tag.
func Scalar(tag, s string) graph.Node { return graph.Node{Kind: graph.Scalar, Tag: tag, Text: s} }

// Seq is a sequence.
func Seq(kids ...int) graph.Node { return graph.Node{Kind: graph.Seq, Tag: "seq", Kids: kids} }

// Map is a mapping, of keys with blanks between them, and where their edges lead.
func Map(keys string, kids ...int) graph.Node {
	return graph.Node{Kind: graph.Map, Tag: "map", Keys: strings.Fields(keys), Kids: kids}
}

// Keyed is a mapping of a key, whatever it is.
func Keyed(key string, kid int) graph.Node {
	return graph.Node{Kind: graph.Map, Tag: "map", Keys: []string{key}, Kids: []int{kid}}
}

// Tagged is a node with a tag.
func Tagged(tag string, n graph.Node) graph.Node {
	n.Tag = tag
	return n
}

// Of is a graph.
func Of(root int, nodes ...graph.Node) graph.Graph { return graph.Graph{Nodes: nodes, Root: root} }

// Chain is a graph of that many sequences, each of which leads to the next one, and the last one to some.
func Chain(n int, last ...int) graph.Graph {
	var g graph.Graph
	for i := range n - 1 {
		g.Nodes = append(g.Nodes, Seq(i+1))
	}
	g.Nodes = append(g.Nodes, Seq(last...))
	return g
}

// Loop is a chain of that many sequences, the last of which leads to the first.
func Loop(n int) graph.Graph { return Chain(n, 0) }

// Odd are numbers of which none is a node's.
func Odd() []int { return []int{math.MinInt, -1 << 32, -1, 1 << 32, math.MaxInt} }

// MayNot are graphs that may not be.
func MayNot() []graph.Graph {
	return []graph.Graph{
		{},
		Of(0),
		Of(1, Str("x")),
		Of(-1, Str("x")),
		Of(math.MaxInt, Str("x")),
		Of(0, graph.Node{}),
		Of(0, Str("x"), graph.Node{}),
		Of(0, Seq(1)),
		Of(0, Seq(-1)),
		Of(0, Scalar("int", "x")),
		Of(0, Str("x\xff")),
		Of(0, Tagged("map", Seq())),
		Of(0, Map("a")),
		Of(0, Map("a a", 0, 0)),
		Of(0, Str("x"), Map("a", 2)),
		Chain(4097),
		Of(0, make([]graph.Node, 5000)...),
	}
}

// Looks are nodes of a graph of five nodes, no two of which look alike.
func Looks() []graph.Node {
	return []graph.Node{
		Str(""),
		Str("x"),
		Str("X"),
		Str("x "),
		Str("true"),
		Str("1"),
		Str("null"),
		Scalar("null", ""),
		Scalar("bool", "true"),
		Scalar("bool", "false"),
		Scalar("int", "1"),
		Scalar("int", "-1"),
		Scalar("!a", ""),
		Scalar("!a", "x"),
		Scalar("!b", "x"),
		Seq(),
		Seq(2),
		Seq(2, 2),
		Tagged("!a", Seq()),
		Tagged("!b", Seq()),
		Tagged("!a", Seq(2)),
		Map(""),
		Map("a", 2),
		Map("b", 2),
		Map("a b", 2, 2),
		Map("a c", 2, 2),
		Map("ab", 2),
		Map("a b c", 2, 2, 2),
		Keyed("", 2),
		Keyed("a b", 2),
		Tagged("!a", Map("")),
		Tagged("!b", Map("")),
		Tagged("!a", Map("a", 2)),
	}
}

// Small are all graphs of two nodes, or one, of which each is some that has up to two edges.
func Small() []graph.Graph {
	var l []graph.Graph
	for n := 1; n <= 2; n++ {
		nodes := []graph.Node{Str("x"), Seq(), Tagged("!m", Map(""))}
		for i := range n {
			nodes = append(nodes, Seq(i), Map("a", i))
			for j := range n {
				nodes = append(nodes, Seq(i, j), Map("b a", i, j))
			}
		}
		for _, first := range nodes {
			if n == 1 {
				l = append(l, Of(0, first))
				continue
			}
			for _, second := range nodes {
				l = append(l, Of(0, first, second), Of(1, first, second))
			}
		}
	}
	return l
}

// Pick picks a number below n.
type Pick func(n int) int

// mixed are the numbers below n in any order.
func (pick Pick) mixed(n int) []int {
	l := make([]int, n)
	for i := range l {
		j := pick(i + 1)
		l[i], l[j] = l[j], i
	}
	return l
}

// Graph is a graph of n nodes, as it falls.
func (pick Pick) Graph(n int) graph.Graph {
	g := graph.Graph{Root: pick(n)}
	edges := 1 + pick(6)
	kinds := 1 + pick(6)
	for range n {
		kids := make([]int, pick(edges))
		for i := range kids {
			kids[i] = pick(n)
		}
		switch pick(kinds) {
		case 0:
			g.Nodes = append(g.Nodes, Seq(kids...))
		case 1:
			g.Nodes = append(g.Nodes, pick.entries("map", kids))
		case 2:
			g.Nodes = append(g.Nodes, Tagged("!s", Seq(kids...)))
		case 3:
			g.Nodes = append(g.Nodes, pick.entries("!m", kids))
		default:
			g.Nodes = append(g.Nodes, Str([]string{"x", "y"}[pick(2)]))
		}
	}
	return g
}

// entries is a mapping of a few edges, its keys in any order.
func (pick Pick) entries(tag string, kids []int) graph.Node {
	n := Tagged(tag, Map("", kids...))
	for _, k := range pick.mixed(len(kids)) {
		n.Keys = append(n.Keys, []string{"", "-", "B", "a", "é", "\U00010000"}[k])
	}
	return n
}

// Moved is the same graph by other numbers, its entries in another order, with some nodes more;
// and the new number of each node.
func (pick Pick) Moved(g graph.Graph, more int) (graph.Graph, []int) {
	n := len(g.Nodes) + more
	to := pick.mixed(n)
	nodes := make([]graph.Node, n)
	for i := range nodes {
		if i >= len(g.Nodes) {
			nodes[to[i]] = Seq(pick(n), pick(n))
			continue
		}
		was := g.Nodes[i]
		o := graph.Node{Kind: was.Kind, Tag: was.Tag, Text: was.Text}
		places := pick.mixed(len(was.Kids))
		if was.Kind == graph.Seq {
			slices.Sort(places)
		}
		for _, p := range places {
			o.Kids = append(o.Kids, to[was.Kids[p]])
			if was.Kind == graph.Map {
				o.Keys = append(o.Keys, was.Keys[p])
			}
		}
		nodes[to[i]] = o
	}
	return Of(to[g.Root], nodes...), to[:len(g.Nodes)]
}

// Changed is a graph with one thing changed of a node; it may still be the same.
func (pick Pick) Changed(g graph.Graph) graph.Graph {
	g = Of(g.Root, slices.Clone(g.Nodes)...)
	i := pick(len(g.Nodes))
	n := g.Nodes[i]
	n.Keys, n.Kids = slices.Clone(n.Keys), slices.Clone(n.Kids)
	switch c := pick(5); {
	case c == 0:
		g.Root = i
	case n.Kind == graph.Scalar && c < 3:
		n.Text += "z"
	case n.Kind == graph.Scalar || c == 1:
		n.Tag = "!z"
	case len(n.Kids) == 0:
		n = Str("z")
	case c == 2:
		n.Kids[pick(len(n.Kids))] = pick(len(g.Nodes))
	case c == 3:
		// A node of its own, that looks as the one that was shared.
		k := pick(len(n.Kids))
		g.Nodes = append(g.Nodes, g.Nodes[n.Kids[k]])
		n.Kids[k] = len(g.Nodes) - 1
	case n.Kind == graph.Map:
		n.Keys[pick(len(n.Keys))] = "z"
	default:
		n.Kids = n.Kids[1:]
	}
	g.Nodes[i] = n
	return g
}

// LookAlike says of two nodes whether they look alike, in the words of layer 10.
func LookAlike(n, o graph.Node) bool {
	if n.Kind != o.Kind || n.Tag != o.Tag || n.Text != o.Text || len(n.Kids) != len(o.Kids) {
		return false
	}
	for _, k := range n.Keys {
		if !slices.Contains(o.Keys, k) {
			return false
		}
	}
	return true
}
