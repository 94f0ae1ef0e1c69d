package value

import (
	"slices"

	"stanhope/api"
	"stanhope/graph"
)

// Weave is a value and a pool as a graph.
func Weave(v Value, pool graph.Graph) (graph.Graph, api.Fault) {
	leaves := v.Leaves()
	if !v.May() || !within(leaves, pool) {
		return graph.Graph{}, api.Fault{Errno: api.ErrShape}
	}
	w := along(pool.Nodes)
	for _, n := range leaves {
		w.from(n)
	}
	if v.Size()-len(leaves)+len(w.met) > api.MaxNodes {
		return graph.Graph{}, api.Fault{Errno: api.ErrNodes, At: api.MaxNodes}
	}
	l := w.loom()
	root := l.value(v)
	return graph.Graph{Nodes: l.nodes, Root: root}.Trim(), api.Fault{}
}

// within says whether leaves, if there are any, are nodes of a pool that may be.
func within(leaves []int, pool graph.Graph) bool {
	if len(leaves) == 0 {
		return true
	}
	lacks := func(n int) bool { return n < 0 || n >= len(pool.Nodes) }
	return !pool.Check().Bad() && !slices.ContainsFunc(leaves, lacks)
}

// walk is a way along edges from one node, and from others.
type walk struct {
	nodes []graph.Node
	met   []int       // what was reached, in order
	open  map[int]int // of each of these 1, while what is reached from it is gone through, and 0 behind that
	back  bool        // whether an edge led to an open one: just then there is a cycle
}

// along is a way along the edges of a graph that may be.
func along(nodes []graph.Node) *walk { return &walk{nodes: nodes, open: make(map[int]int)} }

// from goes on from a node, and answers what is reached from it that wasn't met ahead.
func (w *walk) from(n int) []int {
	was := len(w.met)
	w.visit(n)
	return w.met[was:]
}

// visit goes on to a node.
func (w *walk) visit(n int) {
	if open, met := w.open[n]; met {
		w.back = w.back || open == 1
		return
	}
	w.met = append(w.met, n)
	w.open[n] = 1
	for _, k := range w.nodes[n].Kids {
		w.visit(k)
	}
	w.open[n] = 0
}

// loom has the nodes that were woven, and the number that each of the pool's has among them.
type loom struct {
	nodes  []graph.Node
	number map[int]int
}

// loom has what was met of a pool. Its nodes share with the pool's what isn't
// written into; what is trimmed of them doesn't.
func (w *walk) loom() *loom {
	l := &loom{number: make(map[int]int, len(w.met))}
	for i, n := range w.met {
		l.number[n] = i
	}
	for _, n := range w.met {
		o := w.nodes[n]
		kids := make([]int, len(o.Kids))
		for i, k := range o.Kids {
			kids[i] = l.number[k]
		}
		o.Kids = kids
		l.nodes = append(l.nodes, o)
	}
	return l
}

// value weaves a value that has no more nodes than a graph may have; it answers its number.
func (l *loom) value(v Value) int {
	if v.Kind == Leaf {
		return l.number[v.Node]
	}
	n := graph.Node{Kind: graph.Kind(v.Kind), Tag: v.Tag}
	switch v.Kind {
	case Scalar:
		n.Text = v.Text
	case Map:
		n.Keys = v.Keys
	}
	for _, k := range v.kids() {
		n.Kids = append(n.Kids, l.value(k))
	}
	l.nodes = append(l.nodes, n)
	return len(l.nodes) - 1
}
