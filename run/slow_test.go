package run_test

import (
	"stanhope/align"
	"stanhope/api"
	"stanhope/carve"
	"stanhope/emit"
	"stanhope/gist"
	"stanhope/graph"
	"stanhope/iso"
	"stanhope/load"
	"stanhope/program"
	"stanhope/run"
	"stanhope/typ"
	"stanhope/value"
)

// doc is a graph, and its value.
type doc struct {
	graph.Graph
	value.Value
}

// slow goes the way that the chapter tells, by gist's plain reading of lenses; what is wrong ends it all.
type slow struct{ program.Loaded }

// end ends it all by a fault, if there is one.
func end(p run.Part, f api.Fault) {
	if f.Bad() {
		panic(run.Fault{Part: p, Fault: f})
	}
}

// few ends it all, if there are more nodes than there may be.
func few(ok bool) {
	if !ok {
		end(run.Result, api.Fault{Errno: api.ErrNodes})
	}
}

// slowly is what a way answers: a text, or the fault that ended it.
func slowly(lens string, way func(slow) string) (s string, f run.Fault) {
	defer func() {
		if what := recover(); what != nil {
			s, f = "", what.(run.Fault)
		}
	}()
	l, wrong := program.Ready(lens)
	end(run.Lens, wrong)
	return way(slow{l}), run.Fault{}
}

// read is the document of a text, of a type.
func (s slow) read(p run.Part, t typ.Type, text string) doc {
	d, f := load.One(text)
	end(p, f)
	v, f := value.Parse(s.Env.Defs.Types, t, d.Graph)
	if f.Bad() {
		end(p, api.Fault{Errno: f.Errno, At: d.At[f.At]})
	}
	return doc{d.Graph, v}
}

func slowGet(lens, source string) (string, run.Fault) {
	return slowly(lens, func(l slow) string {
		s := l.read(run.Source, l.Plan.Source, source)
		v, ok := gist.Get(l.Env, l.Plan, s.Value)
		few(ok)
		return written(v, s.Nodes)
	})
}

func slowCreate(lens, view string) (string, run.Fault) {
	return slowly(lens, func(l slow) string {
		w := l.read(run.View, l.Plan.View, view)
		v, ok := gist.Create(l.Env, l.Plan, w.Value)
		few(ok)
		return written(v, w.Nodes)
	})
}

// slowPut puts a view into a source whose nodes stand behind those of the view, all of them; those
// that go on unchanged become the view's when all is done.
func slowPut(lens, view, source string) (string, run.Fault) {
	return slowly(lens, func(l slow) string {
		w, s := l.read(run.View, l.Plan.View, view), l.read(run.Source, l.Plan.Source, source)
		own, ok := gist.Get(l.Env, l.Plan, s.Value)
		few(ok)
		m := iso.New(s.Graph, w.Graph)
		for _, p := range align.Pairs(l.Env.Defs.Types, l.Plan.View, own, w.Value) {
			m.Join(p[0], p[1])
		}
		behind := func(n int) int { return n + len(w.Nodes) }
		v, ok := gist.Put(l.Env, l.Plan, w.Value, carve.Moved(s.Value, behind))
		few(ok)
		both := func(n int) int {
			if n >= len(w.Nodes) && m.To(n-len(w.Nodes)) >= 0 {
				return m.To(n - len(w.Nodes))
			}
			return n
		}
		pool := append([]graph.Node(nil), w.Nodes...)
		for _, x := range s.Nodes {
			x.Kids = append([]int(nil), x.Kids...)
			for i, k := range x.Kids {
				x.Kids[i] = both(behind(k))
			}
			pool = append(pool, x)
		}
		return written(carve.Moved(v, both), pool)
	})
}

// weaver weaves a value with what its leaves reach, node by node.
type weaver struct {
	pool, nodes []graph.Node
	number      map[int]int
}

// value weaves a value.
func (w *weaver) value(v value.Value) int {
	if v.Kind == value.Leaf {
		return w.leaf(v.Node)
	}
	n := len(w.nodes)
	w.nodes = append(w.nodes, graph.Node{Kind: graph.Kind(v.Kind), Tag: v.Tag, Text: v.Text, Keys: v.Keys})
	var kids []int
	for _, k := range v.Kids {
		kids = append(kids, w.value(k))
	}
	w.nodes[n].Kids = kids
	return n
}

// leaf weaves a node of the pool, once.
func (w *weaver) leaf(x int) int {
	if n, ok := w.number[x]; ok {
		return n
	}
	n := len(w.nodes)
	w.number[x] = n
	w.nodes = append(w.nodes, w.pool[x])
	var kids []int
	for _, k := range w.pool[x].Kids {
		kids = append(kids, w.leaf(k))
	}
	w.nodes[n].Kids = kids
	return n
}

// written is the text of a value, and of what its leaves reach of a pool, which may have any number of nodes.
func written(v value.Value, pool []graph.Node) string {
	w := weaver{pool: pool, number: make(map[int]int)}
	w.value(v)
	few(len(w.nodes) <= api.MaxNodes)
	s, f := emit.Graph(graph.Graph{Nodes: w.nodes})
	end(run.Result, api.Fault{Errno: f.Errno})
	return s
}
