package value_test

import (
	"slices"
	"testing"

	"stanhope/api"
	"stanhope/carve"
	"stanhope/graph"
	"stanhope/load"
	"stanhope/sketch"
	"stanhope/value"
)

// entries is a mapping.
var entries = sketch.Map

// held is a sequence that holds some values.
func held(l ...value.Value) value.Value { return carve.Seq(l...) }

// leaf is a leaf.
var leaf = carve.Leaf

// pooled is a pool: a root that leads to all, a loop of 2 and 3, a mapping, and two scalars.
func pooled() graph.Graph {
	return sketch.Of(0, sketch.Seq(1, 2, 4, 5), sketch.Str("x"), sketch.Seq(3, 1), sketch.Seq(2, 3), entries("b a", 1, 5), sketch.Scalar("int", "1"), sketch.Str("far"))
}

// P16.2: the woven graph, node by node.
func TestWeave(t *testing.T) {
	str, seq := sketch.Str, sketch.Seq
	one := sketch.Scalar("int", "1")
	for _, c := range []struct {
		text string
		want graph.Graph
	}{
		{"x", sketch.Of(0, str("x"))},
		{"~", sketch.Of(0, sketch.Scalar("null", ""))},
		{"[]", sketch.Of(0, seq())},
		{"!m {}", sketch.Of(0, sketch.Tagged("!m", entries("")))},
		{"[x, x]", sketch.Of(0, seq(1, 2), str("x"), str("x"))},
		{"{a: [1, {}], b: !s []}", sketch.Of(0, entries("a b", 1, 4), seq(2, 3), one, entries(""), sketch.Tagged("!s", seq()))},
		{"!leaf 0", sketch.Of(0, seq(1, 2, 4, 5), str("x"), seq(3, 1), seq(2, 3), entries("a b", 5, 1), one)},
		{"!leaf 1", sketch.Of(0, str("x"))},
		{"!leaf 2", sketch.Of(0, seq(1, 2), seq(0, 1), str("x"))},
		{"!leaf 3", sketch.Of(0, seq(1, 0), seq(0, 2), str("x"))},
		{"!leaf 4", sketch.Of(0, entries("a b", 1, 2), one, str("x"))},
		{"!leaf 6", sketch.Of(0, str("far"))},
		{"[!leaf 1]", sketch.Of(0, seq(1), str("x"))},
		{"[!leaf 1, !leaf 1, x, !leaf 1]", sketch.Of(0, seq(1, 1, 2, 1), str("x"), str("x"))},
		{"[!leaf 4, !leaf 1]", sketch.Of(0, seq(1, 3), entries("a b", 2, 3), one, str("x"))},
		{"[!leaf 1, !leaf 4]", sketch.Of(0, seq(1, 2), str("x"), entries("a b", 3, 1), one)},
		{"{a: y, b: !leaf 3, c: [!leaf 2]}", sketch.Of(0, entries("a b c", 1, 2, 5), str("y"), seq(3, 2), seq(2, 4), str("x"), seq(3))},
		{"{a: [!leaf 6], b: {a: !leaf 6, c: !leaf 5}}", sketch.Of(0, entries("a b", 1, 3), seq(2), str("far"), entries("a c", 2, 4), one)},
	} {
		for _, v := range []value.Value{of(c.text), carve.Noisy(of(c.text))} {
			if g, f := value.Weave(v, pooled()); f.Bad() || !sketch.Equal(g, c.want) {
				t.Errorf("%s: %v, %v at %d, not %v", c.text, g, f, f.At, c.want)
			}
		}
	}
}

// P16.2: of a value without leaves the pool is of no account.
func TestWeaveBare(t *testing.T) {
	want, _ := load.One("{a: [x, !t ~], b: y}")
	for i, pool := range append(sketch.MayNot(), sketch.Chain(5000), sketch.Loop(4096)) {
		if g, f := value.Weave(of("{b: y, a: [x, !t ~]}"), pool); f.Bad() || !sketch.Equal(g, want.Trim()) {
			t.Errorf("%d: %v, %v at %d", i, g, f, f.At)
		}
	}
}

// holdFault asks for the fault of a value and a pool.
func holdFault(t *testing.T, v value.Value, pool graph.Graph, want api.Fault) {
	t.Helper()
	if g, f := value.Weave(v, pool); f != want || f.Bad() != (len(g.Nodes) == 0) || f.Bad() && g.Root != 0 {
		t.Errorf("%.300v, %.300v: %.300v, %v at %d, not %v at %d", v, pool, g, f, f.At, want, want.At)
	}
}

// P16.2: ErrShape.
func TestWeaveShape(t *testing.T) {
	shape := api.Fault{Errno: api.ErrShape}
	for _, v := range oddly() {
		for _, x := range []value.Value{v, held(leaf(1), v), held(v, leaf(-1)), carve.Keyed("a", held(carve.Str("x"), v))} {
			holdFault(t, x, pooled(), shape)
			holdFault(t, x, graph.Graph{}, shape)
		}
	}
	for _, pool := range append(sketch.MayNot(), sketch.Of(7, pooled().Nodes...), sketch.Of(-1, pooled().Nodes...)) {
		for _, v := range []value.Value{leaf(0), leaf(1), held(leaf(0)), of("{a: x, b: [[], !leaf 0]}")} {
			holdFault(t, v, pool, shape)
		}
	}
	for _, n := range append(sketch.Odd(), 7, 8, 4096) {
		for _, v := range []value.Value{leaf(n), held(leaf(n)), held(leaf(1), held(leaf(n), leaf(1))), carve.Keyed("a", leaf(n))} {
			holdFault(t, v, pooled(), shape)
		}
	}
	holdFault(t, leaf(6), pooled(), api.Fault{})
	holdFault(t, leaf(4095), sketch.Chain(4096), api.Fault{})
	holdFault(t, leaf(4096), sketch.Chain(4096), shape)
	// The chapter tells it ahead of ErrNodes.
	holdFault(t, held(append(slices.Repeat([]value.Value{carve.Str("x")}, 5000), value.Value{})...), pooled(), shape)
	holdFault(t, held(append(slices.Repeat([]value.Value{carve.Str("x")}, 5000), leaf(7))...), pooled(), shape)
	holdFault(t, held(append(slices.Repeat([]value.Value{carve.Str("x")}, 5000), leaf(0))...), sketch.Chain(4097), shape)
}

// many are values of that many nodes that are no leaves, and so many times some leaves.
func many(n, times int, leaves ...int) []value.Value {
	wide := carve.Seq(slices.Repeat([]value.Value{carve.Str("x")}, n-1)...)
	deep := carve.Seq()
	for range times {
		for _, l := range leaves {
			wide.Kids = append(wide.Kids, leaf(l))
			deep.Kids = append(deep.Kids, leaf(l))
		}
	}
	return []value.Value{wide, carve.Nested(n-1, deep, func(v value.Value) value.Value { return carve.Seq(v) })}
}

// P16.2: ErrNodes.
func TestWeaveNodes(t *testing.T) {
	nodes := api.Fault{Errno: api.ErrNodes, At: 4096}
	for _, c := range []struct {
		l    []value.Value
		pool graph.Graph
		want api.Fault
	}{
		{many(4095, 0), pooled(), api.Fault{}},
		{many(4096, 0), pooled(), api.Fault{}},
		{many(4097, 0), pooled(), nodes},
		{many(5000, 0), graph.Graph{}, nodes},
		{many(4095, 1, 1), pooled(), api.Fault{}},
		{many(4096, 1, 1), pooled(), nodes},
		{many(4095, 5000, 1), pooled(), api.Fault{}},
		{many(4096, 5000, 1), pooled(), nodes},
		{many(4094, 100, 1, 5), pooled(), api.Fault{}},
		{many(4095, 1, 1, 5), pooled(), nodes},
		{many(4093, 9, 3, 2), pooled(), api.Fault{}},
		{many(4094, 9, 2), pooled(), nodes},
		{many(4090, 1, 0), pooled(), api.Fault{}},
		{many(4091, 1, 0), pooled(), nodes},
		{many(1, 1, 1), sketch.Chain(4096), api.Fault{}},
		{many(1, 1, 0), sketch.Chain(4096), nodes},
		{many(1, 9, 4000, 1), sketch.Chain(4096), api.Fault{}},
		{many(2, 9, 4000, 1), sketch.Chain(4096), nodes},
		{many(1, 1, 4000), sketch.Loop(4096), nodes},
		{[]value.Value{leaf(0), leaf(4095)}, sketch.Loop(4096), api.Fault{}},
	} {
		for _, v := range c.l {
			holdFault(t, v, c.pool, c.want)
		}
	}
	g, f := value.Weave(many(1, 1, 1)[0], sketch.Chain(4096))
	if f.Bad() || !sketch.Equal(g, sketch.Chain(4096)) {
		t.Error(len(g.Nodes), f, f.At)
	}
}
