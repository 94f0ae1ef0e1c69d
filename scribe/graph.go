package scribe

import (
	"strconv"
	"strings"

	"stanhope/graph"
	"stanhope/resolve"
)

// sheet is on what a graph is written.
type sheet struct {
	Pen
	nodes []graph.Node
	in    []int       // how many edges lead to each node
	names map[int]int // of each node that is named, and was met, the number that its name has
}

// Graph writes what is reached from a graph's root: its keys in whatever order, with a name
// for what is led to more than once, and for others, too, if that is picked.
func (p Pen) Graph(g graph.Graph) string {
	s := sheet{p, g.Nodes, g.In(), make(map[int]int)}
	return s.node(g.Root)
}

// node writes a node, or its name alone, if it was met.
func (s sheet) node(n int) string {
	if number, met := s.names[n]; met {
		return "*n" + strconv.Itoa(number)
	}
	head := ""
	if s.in[n] > 1 || s.pick(5) > 3 {
		s.names[n] = len(s.names)
		head = "&n" + strconv.Itoa(s.names[n]) + " "
	}
	x := s.nodes[n]
	if x.Kind == graph.Scalar {
		return head + s.Scalar(x.Tag, x.Text)
	}
	if resolve.Own(x.Tag) {
		head += x.Tag + " "
	}
	return head + s.collection(x)
}

// collection writes a sequence or a mapping without its tag.
func (s sheet) collection(x graph.Node) string {
	var l []string
	if x.Kind == graph.Seq {
		for _, k := range x.Kids {
			l = append(l, s.node(k))
		}
		return s.Seq(l...)
	}
	// The order is picked ahead, since what comes first has the name.
	order := make([]int, len(x.Kids))
	for i := range order {
		order[i] = i
	}
	mix(s.Pen, order)
	for _, i := range order {
		l = append(l, s.str(x.Keys[i])+": "+s.node(x.Kids[i]))
	}
	return "{" + strings.Join(l, ", ") + "}"
}
