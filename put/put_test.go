package put_test

import (
	"slices"
	"strings"
	"testing"

	"stanhope/api"
	"stanhope/brew"
	"stanhope/carve"
	"stanhope/check"
	"stanhope/create"
	"stanhope/get"
	"stanhope/gist"
	"stanhope/grind"
	"stanhope/lens"
	"stanhope/put"
	"stanhope/spell"
	"stanhope/trial"
	"stanhope/value"
)

// env are definitions, noisy the same with something in all that plays no part.
var env, noisy = trial.Env(), trial.Noisy()

// of is the value of a text.
var of = carve.Value

// behind is the source behind a view that is put into a source; it holds what is so of each.
func behind(t *testing.T, e check.Env, p check.Plan, w, s value.Value) value.Value {
	t.Helper()
	fail := func(what string, x value.Value) {
		t.Helper()
		t.Fatalf("%s of %s into %s: %s: %s", trial.Brief(p), trial.Short(w), trial.Short(s), what, trial.Short(x))
	}
	x, n := put.Run(e, p, w, s)
	y, m := put.Bare(e, p, w, s)
	if n != api.OK || m != api.OK || !carve.Equal(x, y) {
		fail("Run tells "+n.Word()+", Bare "+m.Word()+" and "+trial.Short(y), x)
	}
	if !x.May() || !value.Of(e.Defs.Types, p.Source, x) {
		fail("no source", x)
	}
	// A view that was too great to be made may be put back still.
	view, n := get.Run(e, p, x)
	if n != api.OK && (n != api.ErrNodes || w.Size() <= api.MaxNodes) || n == api.OK && !value.Same(view, w) {
		fail("another view, "+n.Word(), view)
	}
	if trial.More(x, carve.Seq(w, s)) {
		fail("more leaves", x)
	}
	return x
}

// wrong holds that a view isn't put into a source, which is told by an error.
func wrong(t *testing.T, e check.Env, p check.Plan, w, s value.Value, want api.Errno) {
	t.Helper()
	if x, n := put.Run(e, p, w, s); n != want || !carve.Equal(x, value.Value{}) {
		t.Errorf("%s of %s into %s: %v, %s, not %v", trial.Brief(p), trial.Short(w), trial.Short(s), n, trial.Short(x), want)
	}
}

// many holds that a view isn't put into a source, since there come to be too many nodes.
func many(t *testing.T, e check.Env, p check.Plan, w, s value.Value) {
	t.Helper()
	wrong(t, e, p, w, s, api.ErrNodes)
	if x, n := put.Bare(e, p, w, s); n != api.ErrNodes || !carve.Equal(x, value.Value{}) {
		t.Errorf("%s of %s into %s: %v, %s", trial.Brief(p), trial.Short(w), trial.Short(s), n, trial.Short(x))
	}
}

// alone are the kinds by which a source behind is a new source.
var alone = []lens.Kind{lens.Id, lens.Copy, lens.Compose, lens.Rename, lens.Hoist, lens.Plunge, lens.Lift, lens.Sink, lens.Translate}

// only says whether a lens has none but such kinds.
func only(l lens.Lens) bool {
	met := make(map[lens.Kind]int)
	brew.Count(l, met)
	for k := range met {
		if !slices.Contains(alone, k) {
			return false
		}
	}
	return true
}

// hold holds a source behind against a plain reading, and against what follows.
func hold(t *testing.T, e check.Env, p check.Plan, w, s value.Value) {
	t.Helper()
	want, few := gist.Put(e, p, w, s)
	if !few {
		many(t, e, p, w, s)
		return
	}
	x := behind(t, e, p, w, s)
	if !carve.Equal(x, want) {
		t.Fatalf("%s of %s into %s: %s, not %s", trial.Brief(p), trial.Short(w), trial.Short(s), trial.Short(x), trial.Short(want))
	}
	// Its view is w, so that w, put into it, gives it back.
	if y := behind(t, e, p, w, x); !value.Same(y, x) {
		t.Fatalf("%s of %s: %s, not %s", trial.Brief(p), trial.Short(w), trial.Short(y), trial.Short(x))
	}
	if only(p.Lens) {
		if y, n := create.Run(e, p, w); n != api.OK || !carve.Equal(x, y) {
			t.Fatalf("%s of %s: %s, but the new source is %s", trial.Brief(p), trial.Short(w), trial.Short(x), trial.Short(y))
		}
	}
}

// own holds that a source's own view gives it back, and answers the view; false, if there is none, or it can't be put back.
func own(t *testing.T, e check.Env, p check.Plan, s value.Value) (value.Value, bool) {
	t.Helper()
	w, n := get.Run(e, p, s)
	if n != api.OK {
		return w, false
	}
	if _, few := gist.Put(e, p, w, s); !few {
		many(t, e, p, w, s)
		return w, false
	}
	if x := behind(t, e, p, w, s); !value.Same(x, s) {
		t.Fatalf("%s of %s: %s comes back", trial.Brief(p), trial.Short(s), trial.Short(x))
	}
	return w, true
}

// rows are texts, each of a type of sources, a lens with the definitions of trial's Program, a view, what it is put into, and what comes of that.
type rows []struct{ source, lens, view, old, put string }

// passes are the kinds that may hand on what they were handed.
var passes = []lens.Kind{lens.Id, lens.Copy, lens.Const, lens.Compose, lens.Plunge, lens.Union, lens.Fill, lens.Use}

// hold holds what comes of views, with what plays no part, too.
func (l rows) hold(t *testing.T) {
	t.Helper()
	for _, r := range l {
		p, w, s, want := grind.Plan(env.Defs, r.lens, r.source), of(r.view), of(r.old), of(r.put)
		if got := behind(t, env, p, w, s); !carve.Equal(got, want) {
			t.Errorf("%+v: %s", r, trial.Short(got))
		}
		hold(t, env, p, w, s)
		own(t, env, p, s)
		own(t, env, p, want)
		q := grind.Made(noisy.Defs, grind.Noisy(p.Lens), spell.Noisy(p.Source))
		got := behind(t, noisy, q, carve.Noisy(w), carve.Noisy(s))
		// What a lens makes itself has nothing where nothing plays a part.
		if !value.Same(got, want) || !slices.Contains(passes, p.Lens.Kind) && !trial.Clean(got) {
			t.Errorf("%+v, with what plays no part: %+v", r, got)
		}
	}
}

// The chapter's example 1, and the document's.
func TestExample(t *testing.T) {
	rows{
		{"{map a:str b:str}", "{project: {keep: [a], default: {b: ''}}}", "{a: y}", "{a: x, b: z}", "{a: y, b: z}"},
		{"[seq (int|!odd)]", "{filter: [.int]}", "[6, 8, 10]", "[!odd 1, 2, !odd 3, 4]", "[!odd 1, 6, !odd 3, 8, 10]"},
	}.hold(t)
}

// P22.1: a view or a source that may not be, or isn't of its type.
func TestErrType(t *testing.T) {
	for _, c := range []struct {
		source, lens, view, old string
		views, olds             []string
	}{
		{"str", "id", "x", "y", []string{"1", "[]", "!leaf 0"}, []string{"~", "{}", "!leaf 0"}},
		{"any", "copy", "!leaf 0", "!leaf 1", []string{"x", "[!leaf 0]"}, []string{"x", "{}"}},
		{"str", "{const: {view: 1, default: y}}", "1", "z", []string{"2", "y", "'1'", "[1]"}, []string{"1", "[]"}},
		{"str", "{compose: [{plunge: a}, {plunge: b}]}", "{b: {a: x}}", "y", []string{"x", "{a: x}", "{b: {a: 1}}"}, []string{"1", "{b: {a: x}}", "{a: x}"}},
		{"{map a:str b:int}", "{project: {keep: [a], default: {b: 0}}}", "{a: x}", "{a: y, b: 1}", []string{"{a: x, b: 1}", "{}", "{b: 1}", "!m {a: x}"}, []string{"{a: x}", "{a: x, b: y}", "!m {a: x, b: 1}", "[]"}},
		{"{map a:str}", "{rename: {a: b}}", "{b: x}", "{a: x}", []string{"{a: x}", "{}"}, []string{"{b: x}", "{}"}},
		{"{map a:str}", "{hoist: a}", "x", "{a: y}", []string{"{a: x}", "1"}, []string{"x", "{a: 1}"}},
		{"str", "{plunge: a}", "{a: x}", "y", []string{"x", "{a: 1}"}, []string{"{a: x}", "1"}},
		{"{map a:$in b:str}", "{lift: a}", "{b: y, x: x}", "{a: !in {x: x}, b: y}", []string{"{a: !in {x: x}, b: y}", "{b: y}"}, []string{"{b: y, x: x}", "{a: {x: x}, b: y}"}},
		{"{map a:str b:int}", "{sink: {into: c, keys: [a]}}", "{b: 1, c: {a: x}}", "{a: x, b: 1}", []string{"{a: x, b: 1}", "{b: 1, c: {}}"}, []string{"{b: 1, c: {a: x}}", "{b: 1}"}},
		{"[seq (str|int)]", "{filter: [.int]}", "[1]", "[x, 1]", []string{"[x]", "[1, x]", "{a: 1}", "1"}, []string{"[~]", "[[]]", "{a: x}"}},
		{"{map *:(str|int)}", "{filter: [.int]}", "{a: 1}", "{a: x}", []string{"{a: x}", "[1]"}, []string{"{a: ~}", "[x]", "!m {a: x}"}},
		{"{map *:str}", "{map: {plunge: k}}", "{a: {k: x}}", "{a: y}", []string{"{a: x}", "[{k: x}]"}, []string{"{a: {k: x}}", "{a: 1}", "[x]"}},
		{"[seq str]", "{items: {plunge: k}}", "[{k: x}]", "[x, y]", []string{"[x]", "{a: {k: x}}"}, []string{"[{k: x}]", "[x, 1]"}},
		{"$k", "{use: rows}", "[{k: x, v: 1}]", "[{k: x}]", []string{"[{k: x}]", "[{k: x, v: 1}, {k: x, v: 2}]"}, []string{"[{v: 1}]", "[{k: x}, {k: x}]", "{k: x}"}},
		{"{map a?:str}", "{on: {a: {plunge: k}}}", "{a: {k: x}}", "{}", []string{"{a: x}", "{b: {k: x}}"}, []string{"{a: {k: x}}", "{b: x}"}},
		{"$t", "{use: grow}", "{k: x}", "[]", []string{"x", "[x]", "[[{k: 1}]]"}, []string{"{k: x}", "[[1]]", "!leaf 0"}},
		{"{map a?:int}", "{fill: {key: a, value: 0}}", "{a: 0}", "{}", []string{"{}", "{a: x}"}, []string{"{a: x}", "{b: 1}"}},
		{"$e", "{translate: {a: x, b: y}}", "x", "a", []string{"a", "1"}, []string{"x", "!a a", "[a]"}},
	} {
		p, w, s := grind.Plan(env.Defs, c.lens, c.source), of(c.view), of(c.old)
		behind(t, env, p, w, s)
		bad := func(x, y value.Value) {
			t.Helper()
			wrong(t, env, p, x, y, api.ErrType)
			wrong(t, env, p, carve.Noisy(x), carve.Noisy(y), api.ErrType)
		}
		for _, x := range c.views {
			bad(of(x), s)
			for _, y := range c.olds {
				bad(of(x), of(y))
			}
		}
		for _, y := range c.olds {
			bad(w, of(y))
		}
		for _, v := range carve.Odd() {
			wrong(t, env, p, v, s, api.ErrType)
			wrong(t, env, p, w, v, api.ErrType)
		}
	}
}

// P22.1: what may not be somewhere within either, or where it is of no account.
func TestErrTypeWithin(t *testing.T) {
	p := grind.Plan(env.Defs, "{project: {keep: [a], default: {b: []}}}", "{map a:[seq $u] b:[seq $u]}")
	x := of("x")
	behind(t, env, p, carve.Map("a", carve.Seq(x)), carve.Map("a b", carve.Seq(x), carve.Seq(x)))
	long := strings.Repeat("a", 1025)
	for _, v := range append(carve.Odd(), carve.Str(long), of("~"), of("!leaf 0")) {
		wrong(t, env, p, carve.Map("a", carve.Seq(x, v)), carve.Map("a b", carve.Seq(x), carve.Seq(x)), api.ErrType)
		wrong(t, env, p, carve.Map("a", carve.Seq(x)), carve.Map("a b", carve.Seq(v), carve.Seq(x)), api.ErrType)
		wrong(t, env, p, carve.Map("a", carve.Seq(x)), carve.Map("a b", carve.Seq(x), carve.Seq(x, v)), api.ErrType)
	}
	q := grind.Plan(env.Defs, "id", "str")
	behind(t, env, q, carve.Str(long[1:]), carve.Str(long[1:]))
	// No plan, of which there are no sources.
	for _, v := range append(carve.Odd(), x, carve.Seq(), carve.Map(""), carve.Leaf(0)) {
		wrong(t, env, check.Plan{}, v, v, api.ErrType)
		wrong(t, check.Env{}, check.Plan{}, v, x, api.ErrType)
	}
}

// P22.1: which definitions there are is told by the Env.
func TestEnv(t *testing.T) {
	p := grind.Plan(env.Defs, "{use: name}", "$s")
	behind(t, env, p, of("x"), of("y"))
	wrong(t, check.Env{}, p, of("x"), of("y"), api.ErrType)
	q := grind.Plan(env.Defs, "{project: {keep: [a], default: {b: x}}}", "{map a:str b:$u}")
	behind(t, env, q, of("{a: x}"), of("{a: y, b: 1}"))
	wrong(t, check.Env{}, q, of("{a: x}"), of("{a: y, b: 1}"), api.ErrType)
	other := grind.Env("{types: {u: bool}}")
	wrong(t, other, q, of("{a: x}"), of("{a: y, b: 1}"), api.ErrType)
	if s, n := put.Run(other, q, of("{a: x}"), of("{a: y, b: true}")); n != api.OK || !carve.Equal(s, of("{a: x, b: true}")) {
		t.Errorf("%v, %+v", n, s)
	}
	// By which key items are paired, and which Item a head is of, is told by the types that are defined.
	k := grind.Plan(env.Defs, "{keyed: {project: {keep: [k]}}}", "$k")
	u := grind.Plan(env.Defs, "{union: [id, id, {const: {view: true, default: []}}]}", "$u")
	for i := range 2 {
		e := []check.Env{env, noisy}[i]
		if s := behind(t, e, k, of("[{k: y}, {k: x}, {k: z}]"), of("[{k: x, v: 1}, {k: y, v: 2}]")); !carve.Equal(s, of("[{k: y, v: 2}, {k: x, v: 1}, {k: z}]")) {
			t.Errorf("%+v", s)
		}
		if s := behind(t, e, u, of("true"), of("[x]")); !carve.Equal(s, of("[x]")) {
			t.Errorf("%+v", s)
		}
	}
	far := grind.Env("{types: {one: $two, two: '[seq by k {map k:str v?:int}]'}}")
	for _, name := range []string{"$one", "$two"} {
		p := grind.Plan(far.Defs, "{keyed: {project: {keep: [k]}}}", name)
		if s := behind(t, far, p, of("[{k: y}, {k: x}, {k: z}]"), of("[{k: x, v: 1}, {k: y, v: 2}]")); !carve.Equal(s, of("[{k: y, v: 2}, {k: x, v: 1}, {k: z}]")) {
			t.Errorf("%s: %+v", name, s)
		}
	}
	turned := grind.Env("{types: {u: '(str|[seq str]|int)'}}")
	if s, n := put.Run(turned, u, of("true"), of("[x]")); n != api.OK || !carve.Equal(s, of("[]")) {
		t.Errorf("%v, %+v", n, s)
	}
}
