package value

import (
	"errors"

	"stanhope/api"
	"stanhope/graph"
	"stanhope/typ"
)

// Parse is the value of a graph of a type.
func Parse(d typ.Defs, t typ.Type, g graph.Graph) (Value, api.Fault) {
	if f := wrong(g); f.Bad() {
		return Value{}, f
	}
	// What is trimmed stands in the order of going, with its entries.
	p := parser{defs: d, nodes: g.Trim().Nodes, numbers: g.Reach(g.Root), own: make(map[int]struct{})}
	v, err := p.whole(&t)
	if f := p.fault(err); f.Bad() {
		return Value{}, f
	}
	return v, api.Fault{}
}

// wrong is what layer 9 tells of a graph: at the node that isn't right; at 0, where the
// graph itself is wrong, since layer 9's place there is a count and no node's number.
func wrong(g graph.Graph) api.Fault {
	f := g.Check()
	if f.Errno != api.ErrShape || f.At == len(g.Nodes) {
		f.At = 0
	}
	return f
}

// spot is what is wrong at a node.
type spot struct {
	node int
	err  error
}

// Error is what is wrong.
func (s spot) Error() string { return s.err.Error() }

// Unwrap is what is wrong, wherever it is.
func (s spot) Unwrap() error { return s.err }

// parser goes through a graph that is trimmed.
type parser struct {
	defs    typ.Defs
	nodes   []graph.Node
	numbers []int            // the number of each node in the graph that was handed in
	own     map[int]struct{} // the nodes that were met as those of their places
	leaves  []int            // the leaves' nodes, in the order of going
	dags    []int            // those of the type Dag
}

// fault is what an error tells; none of nil.
func (p *parser) fault(err error) api.Fault {
	var s spot
	var e api.Errno
	if errors.As(err, &s) && errors.As(err, &e) {
		return api.Fault{Errno: e, At: p.numbers[s.node]}
	}
	return api.Fault{}
}

// whole is the value of the whole graph.
func (p *parser) whole(t *typ.Type) (Value, error) {
	v, err := p.value(t, 0)
	if err == nil {
		err = p.apart()
	}
	if err == nil {
		err = p.falls()
	}
	return v, err
}

// value is the value of a node at a place of a type. It stands within itself no more
// often than there are nodes, of which a graph has not many.
func (p *parser) value(t *typ.Type, n int) (Value, error) {
	if _, met := p.own[n]; met {
		return Value{}, spot{n, api.ErrShare}
	}
	v := bare(p.nodes[n])
	r := narrow(p.defs, t, v.Head())
	switch r.Kind {
	case typ.Dag:
		p.dags = append(p.dags, n)
		fallthrough
	case typ.Any:
		p.leaves = append(p.leaves, n)
		return Value{Kind: Leaf, Node: p.numbers[n]}, nil
	}
	p.own[n] = struct{}{}
	if !v.is(&r) {
		return Value{}, spot{n, api.ErrType}
	}
	return p.filled(v, &r, p.nodes[n].Kids)
}

// bare is a node's value without what is below it.
func bare(n graph.Node) Value {
	return Value{Kind: Kind(n.Kind), Tag: n.Tag, Text: n.Text, Keys: n.Keys}
}

// filled is a value, of a type, with those of the nodes below it.
func (p *parser) filled(v Value, t *typ.Type, kids []int) (Value, error) {
	for i, k := range kids {
		kid, err := p.value(v.below(t, i), k)
		if err != nil {
			return Value{}, err
		}
		v.Kids = append(v.Kids, kid)
	}
	if i := again(t, v.Kids); i >= 0 {
		return Value{}, spot{kids[i], api.ErrTwice}
	}
	return v, nil
}

// apart is an error at the first leaf that reaches a node that isn't a leaf's.
func (p *parser) apart() error {
	w := along(p.nodes)
	for _, l := range p.leaves {
		for _, n := range w.from(l) {
			if _, own := p.own[n]; own {
				return spot{l, api.ErrShare}
			}
		}
	}
	return nil
}

// falls is an error at the first leaf of the type Dag that reaches a cycle.
func (p *parser) falls() error {
	w := along(p.nodes)
	for _, l := range p.dags {
		w.from(l)
		if w.back {
			return spot{l, api.ErrCycle}
		}
	}
	return nil
}
