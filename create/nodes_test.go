package create_test

import (
	"testing"

	"stanhope/api"
	"stanhope/carve"
	"stanhope/grind"
	"stanhope/trial"
	"stanhope/value"
)

// P21.1: more than 4096 nodes, of what a Compose's Kids make alone.
func TestErrNodes(t *testing.T) {
	trial.Counts{
		// The view isn't counted, nor what is made of it without a Compose.
		{"[seq str]", "id", trial.Scalars, 0},
		{"{map a:[seq str]}", "{hoist: a}", trial.Scalars, 0},
		{"{map a:[seq str] b:str}", "{project: {keep: [a], default: {b: x}}}", trial.Behind, 0},
		{"[seq str]", "{items: id}", trial.Scalars, 0},
		// The first one's, the last one's and the only one's new source is, and any one's between.
		{"[seq str]", "{compose: [id]}", trial.Scalars, 4096},
		{"[seq str]", "{compose: [id, id, id]}", trial.Scalars, 4096},
		{"{map a:[seq str]}", "{compose: [{hoist: a}]}", trial.Scalars, 4095},
		{"{map a:[seq str]}", "{compose: [{hoist: a}, id]}", trial.Scalars, 4095},
		{"{map a:[seq str]}", "{compose: [id, {hoist: a}]}", trial.Scalars, 4095},
		{"[seq str]", "{compose: [{plunge: a}, {hoist: a}]}", trial.Scalars, 4095},
		{"[seq str]", "{compose: [{plunge: a}, {plunge: a}, {hoist: a}, {hoist: a}]}", trial.Scalars, 4094},
		{"[seq str]", "{compose: [{plunge: a}]}", trial.Behind, 4097},
		{"[seq str]", "{compose: [{plunge: a}, id]}", trial.Behind, 4096},
		{"[seq str]", "{compose: [id, {plunge: a}]}", trial.Behind, 4097},
		{"{map a:[seq str]}", "{compose: [{hoist: a}, {plunge: a}]}", trial.Behind, 4096},
		{"{map a:[seq str] b:str}", "{compose: [{project: {keep: [a], default: {b: x}}}]}", trial.Behind, 4095},
		{"{map a:[seq str] b:str c:int}", "{compose: [{project: {keep: [a], default: {b: x, c: 0}}}, {hoist: a}]}", trial.Scalars, 4093},
		{"[seq (str|int)]", "{compose: [{filter: [.str]}]}", trial.Scalars, 4096},
		{"[seq {map a:str}]", "{compose: [{items: {hoist: a}}]}", trial.Scalars, 2048},
		{"{map a:[seq str] b?:int}", "{compose: [{project: {keep: [a]}}]}", trial.Behind, 4096},
		{"{map c:{map b:[seq str]}}", "{compose: [{lift: c}, {hoist: b}]}", trial.Scalars, 4094},
		{"{map c:{map a:[seq str]}}", "{compose: [{lift: c}]}", trial.Behind, 4095},
		{"{map b:[seq str]}", "{compose: [{rename: {b: a}}]}", trial.Behind, 4096},
		// Leaves count, too.
		{"[seq any]", "{compose: [id]}", trial.Leaves, 4096},
		{"[seq {map a:any}]", "{compose: [{items: {hoist: a}}]}", trial.Leaves, 2048},
		// Within others.
		{"{map a:[seq str]}", "{on: {a: {compose: [id]}}}", trial.Behind, 4097},
		{"{map *:[seq str]}", "{map: {compose: [id]}}", trial.Behind, 4097},
		{"[seq {map a:[seq str]}]", "{items: {compose: [{hoist: a}]}}", func(n int) value.Value { return trial.Lists(n - 1) }, 4096},
		{"[seq [seq str]]", "{items: {compose: [id]}}", func(n int) value.Value { return trial.Lists(4096, n-4097, 4096) }, 8193},
		{"(str|[seq str])", "{union: [id, {compose: [id]}]}", trial.Scalars, 4096},
		{"(str|[seq str])", "{union: [{compose: [id]}, id]}", trial.Scalars, 0},
		{"[seq str]", "{compose: [{compose: [id]}]}", trial.Scalars, 4096},
		{"{map b:{map a:[seq str]}}", "{compose: [{hoist: b}, {compose: [{hoist: a}, id]}]}", trial.Scalars, 4094},
	}.Hold(t, sources)
	// What a Fill drops isn't counted.
	p := grind.Plan(env.Defs, "{compose: [{fill: {key: b, value: 0}}]}", "{map a:[seq str] b?:int}")
	full := func(n int, b string) value.Value { return carve.Map("a b", trial.Scalars(n), of(b)) }
	sources.Made(t, env, p, full(4095, "0"))
	sources.Made(t, env, p, full(4094, "1"))
	sources.Wrong(t, env, p, full(4096, "0"), api.ErrNodes)
	sources.Wrong(t, env, p, full(4095, "1"), api.ErrNodes)
}

// P21.1: so are those of a definition; what isn't of the View is told first.
func TestErrNodesUse(t *testing.T) {
	e := grind.Env("{lenses: {f: {source: '{map a:{map b:[seq str]}}', view: '[seq str]', lens: {compose: [{hoist: a}, {hoist: b}]}}}}")
	q := grind.Plan(e.Defs, "{items: {use: f}}", "[seq {map a:{map b:[seq str]}}]")
	sources.Made(t, e, q, trial.Lists(4094, 1, 4094))
	sources.Wrong(t, e, q, trial.Lists(1, 4095, 1), api.ErrNodes)
	for _, s := range []value.Value{of("x"), carve.Seq(carve.Str("\xff")), of("[!leaf 0]"), of("[[]]")} {
		w := trial.Lists(4095)
		w.Kids = append(w.Kids, s)
		sources.Wrong(t, e, q, w, api.ErrType)
	}
}
