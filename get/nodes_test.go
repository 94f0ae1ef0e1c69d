package get_test

import (
	"testing"

	"stanhope/api"
	"stanhope/carve"
	"stanhope/grind"
	"stanhope/trial"
	"stanhope/value"
)

// P20.1: more than 4096 nodes, of what a Compose's Kids make alone.
func TestErrNodes(t *testing.T) {
	trial.Counts{
		// The source isn't counted, nor what comes of it without a Compose.
		{"[seq str]", "id", trial.Scalars, 0},
		{"[seq str]", "{plunge: k}", trial.Scalars, 0},
		{"[seq str]", "{items: {plunge: k}}", trial.Scalars, 0},
		{"{map a:[seq str]}", "{sink: {into: s, keys: [a]}}", trial.Behind, 0},
		// The first, the last and the only Kid's view is, and any one between.
		{"[seq str]", "{compose: [id]}", trial.Scalars, 4096},
		{"[seq str]", "{compose: [id, id, id]}", trial.Scalars, 4096},
		{"[seq str]", "{compose: [{plunge: k}]}", trial.Scalars, 4095},
		{"[seq str]", "{compose: [id, {plunge: k}]}", trial.Scalars, 4095},
		{"[seq str]", "{compose: [{plunge: k}, {hoist: k}]}", trial.Scalars, 4095},
		{"[seq str]", "{compose: [{plunge: k}, {plunge: k}, {hoist: k}, {hoist: k}]}", trial.Scalars, 4094},
		{"[seq str]", "{compose: [id, {plunge: k}, {plunge: k}, {plunge: k}, {hoist: k}]}", trial.Scalars, 4093},
		{"{map a:[seq str]}", "{compose: [{hoist: a}]}", trial.Behind, 4097},
		{"{map a:[seq str]}", "{compose: [{hoist: a}, {plunge: a}]}", trial.Behind, 4096},
		{"[seq str]", "{compose: [{const: {view: x, default: []}}]}", trial.Scalars, 0},
		{"[seq str]", "{compose: [{const: {view: x, default: []}}, {plunge: k}]}", trial.Scalars, 0},
		{"[seq str]", "{compose: [{const: {view: x, default: []}}, id]}", trial.Scalars, 0},
		{"[seq str]", "{compose: [id, {const: {view: x, default: []}}]}", trial.Scalars, 4096},
		{"[seq (str|int)]", "{compose: [{filter: [.int]}]}", trial.Scalars, 0},
		{"[seq (str|int)]", "{compose: [{filter: [.str]}]}", trial.Scalars, 4096},
		{"[seq str]", "{compose: [{items: {plunge: k}}]}", trial.Scalars, 2048},
		{"{map a:[seq str] b?:int}", "{compose: [{fill: {key: b, value: 0}}]}", trial.Behind, 4095},
		{"{map a:[seq str] b?:int}", "{compose: [{project: {keep: [a]}}]}", trial.Behind, 4096},
		{"{map a:[seq str] b?:int}", "{compose: [{sink: {into: c, keys: [b]}}]}", trial.Behind, 4095},
		{"{map a:[seq str] b?:int}", "{compose: [{rename: {a: b, b: a}}]}", trial.Behind, 4096},
		// Leaves count, too.
		{"[seq any]", "{compose: [id]}", trial.Leaves, 4096},
		{"[seq any]", "{compose: [{items: {plunge: k}}]}", trial.Leaves, 2048},
		// Within others.
		{"{map a:[seq str]}", "{on: {a: {compose: [id]}}}", trial.Behind, 4097},
		{"{map *:[seq str]}", "{map: {compose: [id]}}", trial.Behind, 4097},
		{"[seq [seq str]]", "{items: {compose: [{plunge: k}]}}", func(n int) value.Value { return carve.Seq(trial.Scalars(n - 1)) }, 4096},
		{"[seq [seq str]]", "{items: {compose: [id]}}", func(n int) value.Value { return trial.Lists(4096, n-4097, 4096) }, 8193},
		{"(str|[seq str])", "{union: [id, {compose: [id]}]}", trial.Scalars, 4096},
		{"(str|[seq str])", "{union: [{compose: [id]}, id]}", trial.Scalars, 0},
		{"[seq str]", "{compose: [{compose: [id]}]}", trial.Scalars, 4096},
		{"[seq str]", "{compose: [{compose: [{plunge: k}, {hoist: k}]}, {plunge: k}]}", trial.Scalars, 4095},
	}.Hold(t, views)
}

// P20.1: so are those of a definition; what isn't of the Source is told first.
func TestErrNodesUse(t *testing.T) {
	p := grind.Plan(env.Defs, "{on: {a: {use: twice}}}", "{map a:any b:[seq any]}")
	views.Made(t, env, p, carve.Map("a b", carve.Leaf(1), trial.Leaves(5000)))
	e := grind.Env("{lenses: {f: {source: '[seq str]', view: '{map a:{map b:[seq str]}}', lens: {compose: [{plunge: b}, {plunge: a}]}}}}")
	q := grind.Plan(e.Defs, "{items: {use: f}}", "[seq [seq str]]")
	views.Made(t, e, q, trial.Lists(4094, 1, 4094))
	views.Wrong(t, e, q, trial.Lists(1, 4095, 1), api.ErrNodes)
	for _, s := range []value.Value{of("x"), carve.Seq(carve.Str("\xff")), of("[!leaf 0]"), of("[[]]")} {
		v := trial.Lists(4095)
		v.Kids = append(v.Kids, s)
		views.Wrong(t, e, q, v, api.ErrType)
	}
}
