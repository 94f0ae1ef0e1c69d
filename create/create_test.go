package create_test

import (
	"strings"
	"testing"

	"stanhope/api"
	"stanhope/carve"
	"stanhope/check"
	"stanhope/create"
	"stanhope/get"
	"stanhope/gist"
	"stanhope/grind"
	"stanhope/lens"
	"stanhope/trial"
	"stanhope/value"
)

// sources is the way back to new sources.
var sources = trial.Way{
	Run:    create.Run,
	Bare:   create.Bare,
	Back:   true,
	Plain:  gist.Create,
	Law:    law,
	Passes: []lens.Kind{lens.Id, lens.Copy, lens.Const, lens.Compose, lens.Plunge, lens.Filter, lens.Union, lens.Fill, lens.Use},
}

// law tells what isn't so by P21.3: a new source's view is what it was made of, and so are its leaves.
func law(e check.Env, p check.Plan, w, s value.Value) string {
	back, n := get.Run(e, p, s)
	// On the way to the view, a Compose's Kids may come to make more nodes than there may be.
	if n != api.ErrNodes && (n != api.OK || !value.Same(back, w)) {
		return "another view: " + n.Word()
	}
	if trial.More(w, s) || trial.More(s, w) {
		return "other leaves"
	}
	return ""
}

// env are definitions.
var env = trial.Env()

// of is the value of a text.
var of = carve.Value

// The chapter's example 1.
func TestExample(t *testing.T) {
	trial.Rows{{"{map a:str b:str}", "{project: {keep: [a], default: {b: ''}}}", "{a: x}", "{a: x, b: ''}"}}.Hold(t, sources)
}

// P21.1: a value that may not be, or isn't of the View.
func TestErrType(t *testing.T) {
	trial.Bads{
		{"str", "id", []string{"1", "~", "!a x", "[]", "{}", "!leaf 0"}},
		{"any", "copy", []string{"x", "[]", "{}", "[!leaf 0]"}},
		{"str", "{const: {view: x, default: y}}", []string{"y", "1", "''", "[x]", "!a x"}},
		{"$e", "{translate: {a: x, b: y}}", []string{"a", "b", "''", "!a x", "1", "[x]"}},
		{"{map a:str b?:int}", "{project: {keep: [a]}}", []string{"{}", "{a: x, b: 1}", "{a: 1}", "!m {a: x}", "[x]", "x"}},
		{"{map a:str b?:int *:any}", "{project: {keep: [a, b]}}", []string{"{b: 1}", "{a: x, c: !leaf 0}"}},
		{"{map a:str}", "{rename: {a: b}}", []string{"{a: x}", "{a: x, b: x}", "{}", "!m {b: x}"}},
		{"{map a:str}", "{hoist: a}", []string{"{a: x}", "1", "[x]"}},
		{"str", "{plunge: a}", []string{"x", "{}", "{b: x}", "{a: 1}", "{a: x, b: x}", "!m {a: x}"}},
		{"$m", "{lift: a}", []string{"!m {}", "{x: x}", "!m {a: !in {x: x}}", "!m {x: x, a: y}", "!m {x: 1}", "!in {x: x}"}},
		{"{map a:str b?:int}", "{sink: {into: c, keys: [a]}}", []string{"{}", "{c: {}}", "{a: x, c: {a: x}}", "{c: {a: x, b: 1}}", "{c: !m {a: x}}", "{c: x}"}},
		{"[seq (str|int)]", "{filter: [.int]}", []string{"[x]", "[1, x]", "!l [1]", "{a: 1}", "1"}},
		{"{map *:(str|int)}", "{filter: [.int]}", []string{"{a: x}", "{a: 1, b: x}", "[1]", "!m {a: 1}"}},
		{"{map *:str}", "{map: {plunge: a}}", []string{"{a: x}", "{a: {b: x}}", "[{a: x}]"}},
		{"[seq str]", "{items: {plunge: a}}", []string{"[x]", "[{a: x}, {}]", "{a: x}"}},
		{"$k", "{use: rows}", []string{"[{k: x, v: 1}, {k: x, v: 2}]", "[{k: x}]", "[{v: 1}]", "[{k: 1, v: 1}]", "{k: x, v: 1}"}},
		{"{map a?:str}", "{on: {a: {plunge: k}}}", []string{"{a: x}", "{a: {k: 1}}", "{b: x}"}},
		{"$t", "{use: grow}", []string{"x", "{}", "[x]", "[[{k: x}, y]]", "!leaf 0"}},
		{"{map a?:int}", "{fill: {key: a, value: 0}}", []string{"{}", "{a: x}", "{a: 0, b: 1}", "[]"}},
		{"str", "{compose: [{plunge: a}, {plunge: b}]}", []string{"x", "{a: x}", "{a: {b: x}}", "{b: {a: 1}}"}},
	}.Hold(t, sources)
	// What may not be somewhere within.
	for _, v := range carve.Odd() {
		sources.Wrong(t, env, grind.Plan(env.Defs, "{items: {plunge: k}}", "[seq $u]"), carve.Seq(carve.Map("k", of("x")), carve.Map("k", v)), api.ErrType)
		sources.Wrong(t, env, grind.Plan(env.Defs, "{project: {keep: [a, b]}}", "{map a:str b?:[seq $u]}"), carve.Map("a b", of("x"), carve.Seq(v)), api.ErrType)
	}
	// A text that is too long where any text will do, and one that isn't.
	long := strings.Repeat("a", 1025)
	p := grind.Plan(env.Defs, "{hoist: a}", "{map a:str}")
	sources.Wrong(t, env, p, carve.Str(long), api.ErrType)
	sources.Made(t, env, p, carve.Str(long[1:]))
}

// P21.1: which definitions there are is told by the Env.
func TestEnv(t *testing.T) {
	p := grind.Plan(env.Defs, "{use: name}", "$s")
	sources.Made(t, env, p, of("x"))
	sources.Wrong(t, check.Env{}, p, of("x"), api.ErrType)
	q := grind.Plan(env.Defs, "{hoist: a}", "{map a:$u}")
	sources.Wrong(t, check.Env{}, q, of("1"), api.ErrType)
	other := grind.Env("{types: {u: int}}")
	sources.Wrong(t, other, q, of("x"), api.ErrType)
	if s, n := create.Run(other, q, of("1")); n != api.OK || !carve.Equal(s, of("{a: 1}")) {
		t.Errorf("%v, %+v", n, s)
	}
	// A Source that isn't there, or is another one, though the View is as it was.
	r := grind.Plan(env.Defs, "{lift: a}", "$m")
	sources.Made(t, env, r, of("!m {x: x}"))
	for _, s := range []string{"{}", "{types: {m: str}}", "{types: {m: '{!m b:str}'}}"} {
		sources.Wrong(t, grind.Env(s), r, of("!m {x: x}"), api.ErrType)
	}
}
