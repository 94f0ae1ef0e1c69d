package put_test

import (
	"testing"

	"stanhope/api"
	"stanhope/carve"
	"stanhope/grind"
	"stanhope/trial"
	"stanhope/value"
)

// always is the same value for any number of nodes.
func always(s string) func(int) value.Value { return func(int) value.Value { return of(s) } }

// one is a sequence, of so many nodes less one, in another one.
func one(n int) value.Value { return carve.Seq(trial.Scalars(n - 1)) }

// beside is a mapping that has so many nodes, of a scalar and of Scalars behind the key b.
func beside(n int) value.Value { return carve.Map("a b", of("x"), trial.Scalars(n-2)) }

// P22.1: more than 4096 nodes, of the views of a Compose's Kids but the last one's, and of what is put back by them.
func TestErrNodes(t *testing.T) {
	const out = "{items: {plunge: k}}"
	for _, c := range []struct {
		source, lens string
		view, old    func(int) value.Value
		most         int // 0, if there may be any number
	}{
		// The view and the source aren't counted, nor what comes of them without a Compose.
		{"[seq str]", "id", trial.Scalars, trial.Scalars, 0},
		{"{map a:[seq str]}", "{hoist: a}", trial.Scalars, trial.Behind, 0},
		{"[seq str]", "{const: {view: x, default: []}}", always("x"), trial.Scalars, 0},
		{"{map a:[seq str] b:[seq str]}", "{project: {keep: [a], default: {b: []}}}", trial.Behind, func(n int) value.Value { return carve.Map("a b", trial.Scalars(n), trial.Scalars(n)) }, 0},
		{"[seq (str|int)]", "{filter: [.int]}", always("[1]"), trial.Scalars, 0},
		{"[seq {map a:str}]", "{items: {hoist: a}}", trial.Scalars, always("[]"), 0},
		{"[seq str]", "{compose: [id]}", always("[]"), trial.Scalars, 0},
		// Nor is the last one's view, or the only one's.
		{"[seq str]", "{compose: [" + out + "]}", always("[]"), trial.Scalars, 0},
		{"[seq str]", "{compose: [{compose: [{compose: [" + out + "]}]}]}", always("[]"), trial.Scalars, 0},
		{"[seq str]", "{compose: [id, " + out + "]}", always("[]"), trial.Scalars, 4096},
		{"[seq str]", "{compose: [id, {compose: [id, " + out + "]}]}", always("[]"), trial.Scalars, 4096},
		// Each other one's is.
		{"[seq str]", "{compose: [id, id]}", always("[]"), trial.Scalars, 4096},
		{"[seq str]", "{compose: [" + out + ", id]}", always("[]"), trial.Scalars, 2048},
		{"[seq str]", "{compose: [id, " + out + ", id]}", always("[]"), trial.Scalars, 2048},
		{"[seq str]", "{compose: [" + out + ", {items: {hoist: k}}]}", always("[]"), trial.Scalars, 2048},
		{"[seq str]", "{compose: [" + out + ", " + out + ", {items: {hoist: k}}, {items: {hoist: k}}]}", always("[]"), trial.Scalars, 1366},
		{"[seq str]", "{compose: [{compose: [" + out + "]}, id]}", always("[]"), trial.Scalars, 2048},
		{"[seq str]", "{compose: [{compose: [id, " + out + "]}, {items: {hoist: k}}]}", always("[]"), trial.Scalars, 2048},
		{"[seq str]", "{compose: [id, {compose: [" + out + ", id]}]}", always("[]"), trial.Scalars, 2048},
		{"[seq str]", "{compose: [{plunge: k}, {hoist: k}]}", always("[]"), trial.Scalars, 4095},
		{"[seq str]", "{compose: [{plunge: k}, {plunge: k}, {hoist: k}, {hoist: k}]}", always("[]"), trial.Scalars, 4094},
		{"[seq (str|int)]", "{compose: [{filter: [.str]}, id]}", always("[]"), trial.Scalars, 4096},
		{"[seq str]", "{compose: [{const: {view: x, default: []}}, {plunge: k}]}", always("{k: x}"), trial.Scalars, 4096},
		// What is put back is, by the first, by the last and by the only one, and by any one between.
		{"[seq str]", "{compose: [id]}", trial.Scalars, always("[]"), 4096},
		{"[seq str]", "{compose: [id, id, id]}", trial.Scalars, always("[]"), 4096},
		{"{map a:[seq str]}", "{compose: [{hoist: a}]}", trial.Scalars, always("{a: []}"), 4095},
		{"{map a:[seq str]}", "{compose: [{hoist: a}, id]}", trial.Scalars, always("{a: []}"), 4095},
		{"{map a:[seq str]}", "{compose: [id, {hoist: a}]}", trial.Scalars, always("{a: []}"), 4095},
		{"[seq str]", "{compose: [{plunge: k}]}", func(n int) value.Value { return carve.Map("k", trial.Scalars(n)) }, always("[]"), 4096},
		{"[seq str]", "{compose: [{plunge: k}, {hoist: k}]}", trial.Scalars, always("[]"), 4095},
		{"[seq str]", "{compose: [{plunge: k}, {plunge: k}, {hoist: k}, {hoist: k}]}", trial.Scalars, always("[]"), 4094},
		{"[seq {map a:str}]", "{compose: [{items: {hoist: a}}]}", trial.Scalars, always("[]"), 2048},
		// What isn't shown counts there, but not by itself.
		{"[seq str]", "{compose: [{const: {view: x, default: []}}]}", always("x"), trial.Scalars, 4096},
		{"[seq str]", "{compose: [{const: {view: x, default: []}}, id]}", always("x"), trial.Scalars, 4096},
		{"{map a:str b:[seq str]}", "{compose: [{project: {keep: [a], default: {b: []}}}]}", always("{a: y}"), beside, 4096},
		{"{map a:str b:[seq str]}", "{compose: [{project: {keep: [a], default: {b: []}}}, {hoist: a}]}", always("y"), beside, 4096},
		{"[seq (str|int)]", "{compose: [{filter: [.int]}]}", always("[]"), trial.Scalars, 4096},
		{"[seq (str|int)]", "{compose: [{filter: [.int]}]}", always("[1, 2]"), trial.Scalars, 4094},
		{"{map a?:[seq str] b?:int}", "{compose: [{project: {keep: [b]}}]}", always("{b: 1}"), trial.Behind, 4095},
		{"{map a?:[seq str] b?:int}", "{compose: [{project: {keep: [b]}}]}", always("{}"), trial.Behind, 4096},
		// Leaves count, too.
		{"[seq any]", "{compose: [id]}", trial.Leaves, always("[]"), 4096},
		{"[seq any]", "{compose: [" + out + ", id]}", always("[]"), trial.Leaves, 2048},
		// Within others.
		{"{map a:[seq str]}", "{on: {a: {compose: [id]}}}", trial.Behind, always("{a: []}"), 4097},
		{"{map a?:[seq str]}", "{on: {a: {compose: [id]}}}", trial.Behind, always("{}"), 4097},
		{"{map *:[seq str]}", "{map: {compose: [id, id]}}", always("{a: []}"), trial.Behind, 4097},
		{"{map *:[seq str]}", "{map: {compose: [id, id]}}", always("{b: []}"), trial.Behind, 0},
		{"[seq [seq str]]", "{items: {compose: [id, " + out + "]}}", always("[[]]"), one, 4097},
		{"[seq [seq str]]", "{items: {compose: [id, " + out + "]}}", always("[]"), one, 0},
		{"[seq [seq str]]", "{items: {compose: [id]}}", func(n int) value.Value { return trial.Lists(4096, n-4097, 4096) }, always("[[], []]"), 8193},
		{"[seq [seq str]]", "{items: {compose: [id]}}", func(n int) value.Value { return trial.Lists(5, n-6) }, always("[[]]"), 4102},
		{"(str|[seq str])", "{union: [id, {compose: [id, " + out + "]}]}", always("[]"), trial.Scalars, 4096},
		{"(str|[seq str])", "{union: [id, {compose: [id, " + out + "]}]}", always("x"), trial.Scalars, 0},
		{"(str|[seq str])", "{union: [id, {compose: [id]}]}", trial.Scalars, always("x"), 4096},
		{"[seq str]", "{use: big}", always("[]"), trial.Scalars, 4093},
		{"[seq str]", "{use: big}", trial.Scalars, always("[]"), 4093},
		{"[seq str]", "{compose: [{use: big}]}", always("[]"), trial.Scalars, 4093},
		{"[seq str]", "{compose: [{items: {compose: [{plunge: k}]}}]}", always("[]"), trial.Scalars, 0},
		{"[seq str]", "{compose: [{items: {compose: [{plunge: k}]}}, id]}", always("[]"), trial.Scalars, 2048},
	} {
		p := grind.Plan(env.Defs, c.lens, c.source)
		if c.most == 0 {
			for _, n := range [...]int{4096, 4097, 20000} {
				behind(t, env, p, c.view(n), c.old(n))
			}
			continue
		}
		behind(t, env, p, c.view(c.most), c.old(c.most))
		for _, n := range [...]int{1, 2, 5000} {
			many(t, env, p, c.view(c.most+n), c.old(c.most+n))
		}
	}
}

// P22.1: what a Fill leaves away isn't counted, what it leaves there is.
func TestErrNodesFill(t *testing.T) {
	p := grind.Plan(env.Defs, "{compose: [{fill: {key: b, value: 0}}]}", "{map a:[seq str] b?:int}")
	full := func(n int, b string) value.Value { return carve.Map("a b", trial.Scalars(n), of(b)) }
	behind(t, env, p, full(4095, "0"), of("{a: []}"))
	many(t, env, p, full(4096, "0"), of("{a: []}"))
	behind(t, env, p, full(4094, "0"), of("{a: [], b: 1}"))
	many(t, env, p, full(4095, "0"), of("{a: [], b: 1}"))
	behind(t, env, p, full(4094, "1"), of("{a: []}"))
	many(t, env, p, full(4095, "1"), of("{a: []}"))
}

// P22.1: what isn't of its type is told ahead of too many nodes.
func TestErrTypeFirst(t *testing.T) {
	p := grind.Plan(env.Defs, "{items: {compose: [id, {plunge: k}, {hoist: k}]}}", "[seq [seq str]]")
	behind(t, env, p, trial.Lists(4095), trial.Lists(4095))
	great := trial.Lists(4096)
	many(t, env, p, great, trial.Lists(1))
	many(t, env, p, trial.Lists(1), great)
	for _, x := range []value.Value{of("x"), carve.Seq(carve.Str("\xff")), of("[!leaf 0]"), of("[[]]")} {
		bad := trial.Lists(4096)
		bad.Kids = append(bad.Kids, x)
		wrong(t, env, p, bad, great, api.ErrType)
		wrong(t, env, p, great, bad, api.ErrType)
		wrong(t, env, p, carve.Seq(x), great, api.ErrType)
		wrong(t, env, p, great, carve.Seq(x), api.ErrType)
	}
}
