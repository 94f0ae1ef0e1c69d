package get_test

import (
	"strings"
	"testing"

	"stanhope/api"
	"stanhope/carve"
	"stanhope/check"
	"stanhope/get"
	"stanhope/gist"
	"stanhope/grind"
	"stanhope/lens"
	"stanhope/spell"
	"stanhope/trial"
	"stanhope/typ"
	"stanhope/value"
)

// views is the way to views. P20.3: a view's leaves are some of the source's, none more often than there.
var views = trial.Way{
	Run:   get.Run,
	Bare:  get.Bare,
	Plain: gist.Get,
	Law: func(e check.Env, p check.Plan, v, w value.Value) string {
		if trial.More(w, v) {
			return "a leaf that stands in the source less often"
		}
		return ""
	},
	Passes: []lens.Kind{lens.Id, lens.Copy, lens.Const, lens.Compose, lens.Hoist, lens.Union, lens.Use},
}

// env are definitions, noisy the same with something in all that plays no part.
var env, noisy = trial.Env(), trial.Noisy()

// of is the value of a text.
var of = carve.Value

// The chapter's example 1.
func TestExample(t *testing.T) {
	trial.Rows{{"{map a:str b?:str}", "{project: {keep: [a]}}", "{a: x, b: y}", "{a: x}"}}.Hold(t, views)
}

// P20.1: a value that may not be, or isn't of the Source.
func TestErrType(t *testing.T) {
	trial.Bads{
		{"str", "id", []string{"1", "~", "!a x", "[]", "{}", "!leaf 0", "[x]"}},
		{"any", "copy", []string{"x", "[]", "{}", "[!leaf 0]"}},
		{"str", "{const: {view: x, default: y}}", []string{"1", "[x]"}},
		{"$e", "{translate: {a: x, b: y}}", []string{"c", "''", "!a a", "1", "[a]", "{a: b}"}},
		{"{map a:str b?:int}", "{project: {keep: [a]}}", []string{"{}", "{b: 1}", "{a: x, b: y}", "{a: x, c: 1}", "{a: 1}", "!m {a: x}", "[x]", "x"}},
		{"{map a:str}", "{rename: {a: b}}", []string{"{b: x}", "{a: x, b: x}", "{}", "!m {a: x}"}},
		{"{map a:str}", "{hoist: a}", []string{"{}", "{b: x}", "{a: 1}", "{a: x, b: x}", "x"}},
		{"str", "{plunge: a}", []string{"{a: x}", "1"}},
		{"{map a:$in b:str}", "{lift: a}", []string{"{a: {x: x}, b: y}", "{a: !in {y: 1}, b: y}", "{a: !in {x: x}}", "{x: x, b: y}"}},
		{"{map a:str b?:int}", "{sink: {into: c, keys: [a]}}", []string{"{c: {a: x}}", "{b: 1}", "{a: x, c: y}"}},
		{"[seq (str|int)]", "{filter: [.int]}", []string{"[~]", "[x, [1]]", "!l [x]", "{a: x}", "x", "[!leaf 0]"}},
		{"{map *:(str|int)}", "{filter: [.int]}", []string{"{a: ~}", "{a: {}}", "[x]", "!m {a: 1}"}},
		{"{map *:str}", "{map: {plunge: a}}", []string{"{a: 1}", "{a: {a: x}}", "[x]"}},
		{"[seq str]", "{items: {plunge: a}}", []string{"[1]", "[x, y, {}]", "{a: x}", "x"}},
		{"$k", "{use: rows}", []string{"[{k: x}, {k: x}]", "[{k: x}, {k: y, v: z}]", "[{v: 1}]", "[{k: 1}]", "{k: x}"}},
		{"{map a?:str}", "{on: {a: {plunge: k}}}", []string{"{a: 1}", "{a: {k: x}}", "{b: x}", "[x]"}},
		{"$t", "{use: grow}", []string{"1", "[x, [y, [z, 1]]]", "{}", "!leaf 0"}},
		{"{map a?:int}", "{fill: {key: a, value: 0}}", []string{"{a: x}", "{b: 1}", "[]"}},
		{"str", "{compose: [{plunge: a}, {hoist: a}]}", []string{"1", "{a: x}"}},
	}.Hold(t, views)
	// What may not be somewhere within.
	for _, v := range carve.Odd() {
		views.Wrong(t, env, grind.Plan(env.Defs, "{items: id}", "[seq $u]"), carve.Seq(of("x"), v), api.ErrType)
		views.Wrong(t, env, grind.Plan(env.Defs, "{project: {keep: [a]}}", "{map a:str *:$u}"), carve.Map("a b", of("x"), carve.Seq(v)), api.ErrType)
	}
	// A text that is too long where any text will do, and one that isn't.
	long := strings.Repeat("a", 1025)
	p := grind.Plan(env.Defs, "{plunge: a}", "str")
	views.Wrong(t, env, p, carve.Str(long), api.ErrType)
	views.Made(t, env, p, carve.Str(long[1:]))
}

// P20.1: which definitions there are is told by the Env.
func TestEnv(t *testing.T) {
	p := grind.Plan(env.Defs, "{use: name}", "$s")
	views.Made(t, env, p, of("x"))
	views.Wrong(t, check.Env{}, p, of("x"), api.ErrType)
	other := grind.Env("{types: {s: int}, lenses: {name: {source: $s, view: '{map k:$s}', lens: {plunge: k}}}}")
	views.Wrong(t, other, p, of("x"), api.ErrType)
	if v, n := get.Run(other, p, of("1")); n != api.OK || !carve.Equal(v, of("{k: 1}")) {
		t.Errorf("%v, %+v", n, v)
	}
	// A Union of more Items than there are Kids.
	q := grind.Plan(env.Defs, "{union: [id, id, {items: {plunge: k}}]}", "$u")
	more := grind.Env("{types: {u: '(int|str|[seq str]|bool)'}}")
	views.Wrong(t, more, q, of("true"), api.ErrType)
	if v, n := get.Run(more, q, of("[x]")); n != api.OK || !carve.Equal(v, of("[{k: x}]")) {
		t.Errorf("%v, %+v", n, v)
	}
}

// P20.2: the number of a Union's Item by a head.
func TestBranch(t *testing.T) {
	heads := []string{".str", ".int", ".bool", ".null", ".!a", "[seq", "[!a", "{map", "{!a", "", ".", "[", "{", "str", ".st", ".str ", "seq", "{seq", "[map", "any"}
	for _, c := range []struct {
		typ  string
		want []string
	}{
		{"(str|int)", []string{".str", ".int"}},
		{"(int|str)", []string{".int", ".str"}},
		{"({map}|[seq any]|<bool 'true'>|null)", []string{"{map", "[seq", ".bool", ".null"}},
		{"(!a|[!a any]|{!a *:any}|[seq by k $rec])", []string{".!a", "[!a", "{!a", "[seq"}},
		{"(int|(str|(bool|[seq any]))|null)", []string{".int", ".str .bool [seq", ".null"}},
		{"($s|$rec)", []string{".str", "{map"}},
		{"(bool|$u|{map})", []string{".bool", ".str .int [seq", "{map"}},
		{"$t", []string{".str", "[seq"}},
		{"(null|$t)", []string{".null", ".str [seq"}},
		// None is a Union.
		{"str", nil}, {"$s", nil}, {"[seq (str|int)]", nil}, {"{map *:(str|int)}", nil}, {"any", nil}, {"dag", nil}, {"$d", nil}, {"?", nil}, {"$none", nil},
		// Some that may not be: the first Item that has the head; Items without heads have none.
		{"(str|str|int)", []string{".str", "", ".int"}},
		{"(any|str)", []string{"", ".str"}},
		{"($none|dag|int|?)", []string{"", "", ".int"}},
		{"(str)", []string{".str"}},
		{"()", nil},
	} {
		for i, x := range []typ.Type{spell.Type(c.typ), spell.Noisy(spell.Type(c.typ))} {
			e := []check.Env{env, noisy}[i]
			for _, h := range heads {
				want := -1
				for k, w := range c.want {
					for _, s := range strings.Fields(w) {
						if s == h {
							want = k
						}
					}
				}
				if n := get.Branch(e, x, h); n != want {
					t.Errorf("%s by %q: %d, not %d", c.typ, h, n, want)
				}
			}
		}
	}
	// What can't be resolved.
	loop := check.Env{Defs: lens.Defs{Types: spell.Defs("a=$b b=$a c=(str|$c)")}}
	for _, s := range []string{"$a", "$b", "$x"} {
		if n := get.Branch(loop, spell.Type(s), ".str"); n != -1 {
			t.Error(s, n)
		}
	}
	if n := get.Branch(loop, spell.Type("($c|int|$a|str)"), ".str"); n != 3 {
		t.Error(n)
	}
	if n := get.Branch(loop, spell.Type("$c"), ".int"); n != -1 {
		t.Error(n)
	}
}
