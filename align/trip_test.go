package align_test

import (
	"math/rand"
	"testing"

	"stanhope/align"
	"stanhope/api"
	"stanhope/brew"
	"stanhope/check"
	"stanhope/emit"
	"stanhope/get"
	"stanhope/graph"
	"stanhope/grind"
	"stanhope/iso"
	"stanhope/lens"
	"stanhope/load"
	"stanhope/put"
	"stanhope/sketch"
	"stanhope/spell"
	"stanhope/typ"
	"stanhope/value"
)

// doc is a graph, and its value.
type doc struct {
	graph.Graph
	value.Value
}

// read is the only document of a text, which is of a type.
func read(t *testing.T, d typ.Defs, x typ.Type, s string) doc {
	t.Helper()
	l, f := load.One(s)
	v, g := value.Parse(d, x, l.Graph)
	if f.Bad() || g.Bad() {
		t.Fatalf("%s as %s: %v at %d, %v at %d", s, typ.Show(x), f, f.At, g, g.At)
	}
	return doc{l.Graph, v}
}

// shown is the view of a document by a plan.
func shown(t *testing.T, e check.Env, p check.Plan, s doc) doc {
	t.Helper()
	v, n := get.Run(e, p, s.Value)
	g, f := value.Weave(v, s.Graph)
	if n != api.OK || f.Bad() {
		t.Fatalf("%v, %v", n, f)
	}
	return doc{g, v}
}

// back is what comes of a view that is put into a source by a plan, as a graph.
func back(t *testing.T, e check.Env, p check.Plan, w, s doc) graph.Graph {
	t.Helper()
	own := shown(t, e, p, s)
	pool := made(t, s.Graph, w.Graph, align.Pairs(e.Defs.Types, p.View, own.Value, w.Value))
	v, n := put.Run(e, p, w.Value, pool.Move(s.Value))
	if n != api.OK {
		t.Fatalf("%+v into %+v: %v", w, s, n)
	}
	v, g, n := pool.Take(v)
	g, f := value.Weave(v, g)
	if n != api.OK || f.Bad() {
		t.Fatalf("%+v into %+v: %v, %v", w, s, n, f)
	}
	return g
}

// P23.1 to P23.4: texts of views, put into those of sources: what both have unchanged shares on
// with what isn't shown.
func TestTrip(t *testing.T) {
	const a = "{project: {keep: [a]}}"
	for _, c := range []struct{ of, lens, source, view, want string }{
		// The document's example 9: the part is unchanged, or isn't.
		{"{map a:any b?:any}", a, "a: &x {k: 1}\nb: *x\n", "a: {k: 1}\n", "a: &a1\n  k: 1\nb: *a1\n"},
		{"{map a:any b?:any}", a, "a: &x {k: 1}\nb: *x\n", "a: {k: 2}\n", "a:\n  k: 2\nb:\n  k: 1\n"},
		{"{map a:any b?:any}", a, "a: &x {k: 1}\nb: [*x]\n", "a: {k: 1}\n", "a: &a1\n  k: 1\nb:\n  - *a1\n"},
		{"{map a:any b?:any}", a, "a: [&x y]\nb: *x\n", "a: [y]\n", "a:\n  - &a1 y\nb: *a1\n"},
		{"{map a:any b?:any}", a, "a: [&x y, z]\nb: *x\n", "a: [y, w]\n", "a:\n  - y\n  - w\nb: y\n"},
		// Parts that go on unchanged, item by item, entry by entry.
		{"{map a:[seq any] b?:any}", a, "a: [&x y, &z w]\nb: [*x, *z]\n", "a: [y, v]\n", "a:\n  - &a1 y\n  - v\nb:\n  - *a1\n  - w\n"},
		{"{map a:[seq any] b?:any}", a, "a: [&x y, &z w]\nb: [*x, *z]\n", "a: [w, y]\n", "a:\n  - w\n  - y\nb:\n  - y\n  - w\n"},
		{"{map a:{map *:any} b?:any}", a, "a: {p: &x y, q: &z w}\nb: [*x, *z]\n", "a: {q: w, o: y}\n", "a:\n  o: y\n  q: &a1 w\nb:\n  - y\n  - *a1\n"},
		{"{map a:[seq by k {map k:str v:any}] b?:any}", a, "a: [{k: m, v: &x y}, {k: n, v: &z w}]\nb: [*x, *z]\n", "a: [{k: n, v: w}, {k: l, v: y}, {k: m, v: y}]\n",
			"a:\n  -\n    k: n\n    v: &a1 w\n  -\n    k: l\n    v: y\n  -\n    k: m\n    v: &a2 y\nb:\n  - *a2\n  - *a1\n"},
		// What the view shares it shares on; what it parts is parted.
		{"{map a:[seq any] b?:any}", a, "a: [&x y, *x]\nb: *x\n", "a: [&x y, *x]\n", "a:\n  - &a1 y\n  - *a1\nb: *a1\n"},
		{"{map a:[seq any] b?:any}", a, "a: [&x y, *x]\nb: *x\n", "a: [y, y]\n", "a:\n  - &a1 y\n  - y\nb: *a1\n"},
		{"{map a:[seq any] b?:any}", a, "a: [y, &x y]\nb: *x\n", "a: [&x y, *x]\n", "a:\n  - &a1 y\n  - *a1\nb: y\n"},
		// Cycles.
		{"{map a:any b?:any}", a, "a: &x [*x, y]\nb: [*x]\n", "a: &x [*x, y]\n", "a: &a1\n  - *a1\n  - y\nb:\n  - *a1\n"},
		{"{map a:any b?:any}", a, "a: &x [*x, y]\nb: [*x]\n", "a: [&x [*x, y], y]\n", "a:\n  - &a1\n    - *a1\n    - y\n  - y\nb:\n  - &a2\n    - *a2\n    - y\n"},
		{"any", "copy", "&x [*x]\n", "&y [*y]\n", "&a1\n- *a1\n"},
		// Of no leaves there is nothing to take.
		{"{map a:str b?:str}", a, "{a: x, b: y}\n", "a: z\n", "a: z\nb: y\n"},
	} {
		p := grind.Plan(lens.Defs{}, c.lens, c.of)
		s, w := read(t, typ.Defs{}, p.Source, c.source), read(t, typ.Defs{}, p.View, c.view)
		if got, f := emit.Graph(back(t, check.Env{}, p, w, s)); f.Bad() || got != c.want {
			t.Errorf("%+v: %v\n%s", c, f, got)
		}
		view, _ := emit.Graph(shown(t, check.Env{}, p, s).Graph)
		own := read(t, typ.Defs{}, p.View, view)
		if g := back(t, check.Env{}, p, own, s); !iso.Same(g, s.Graph) {
			t.Errorf("%+v: %v", c, g)
		}
	}
}

// filled is a graph of a type as it falls, whose leaves share what they reach, and its value; false, if none came.
func filled(m *brew.Maker, x typ.Type) (doc, bool) {
	pick := sketch.Pick(m.Pick)
	v := m.Value(x, 4)
	pool := pick.Graph(5 + pick(8))
	g, f := value.Weave(v, pool)
	if f.Bad() {
		return doc{}, false
	}
	v, f = value.Parse(m.Types, x, g)
	return doc{g, v}, !f.Bad()
}

// P23.1 to P23.4: a source's own view, under other numbers, put into it, gives its graph; of any
// other view put into it the view is that graph.
func TestTripFall(t *testing.T) {
	m := &brew.Maker{Pick: rand.New(rand.NewSource(237)).Intn, Often: 200}
	m.Types = spell.Defs(brew.Names)
	pick := sketch.Pick(m.Pick)
	leaves, others := 0, 0
	for range 40 {
		e := m.Define(4)
		for range 100 {
			p := m.Plan()
			s, ok := filled(m, p.Source)
			if !ok {
				continue
			}
			w := shown(t, e, p, s)
			g, _ := pick.Moved(w.Graph, 0)
			v, f := value.Parse(m.Types, p.View, g)
			if f.Bad() {
				t.Fatal(f)
			}
			if x := back(t, e, p, doc{g, v}, s); !iso.Same(x, s.Graph) {
				t.Fatalf("%s: %v put into %v: %v", typ.Show(p.Source), g, s.Graph, x)
			}
			leaves += len(v.Leaves())
			o, ok := filled(m, p.View)
			if !ok {
				continue
			}
			x := back(t, e, p, o, s)
			y, f := value.Parse(m.Types, p.Source, x)
			if f.Bad() || !iso.Same(shown(t, e, p, doc{x, y}).Graph, o.Graph) {
				t.Fatalf("%s: %v put into %v: %v, %v", typ.Show(p.Source), o.Graph, s.Graph, x, f)
			}
			others += len(o.Leaves())
		}
	}
	if leaves < 500 || others < 500 {
		t.Error(leaves, others)
	}
}
