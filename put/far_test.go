package put_test

import (
	"reflect"
	"slices"
	"strconv"
	"testing"

	"stanhope/carve"
	"stanhope/check"
	"stanhope/grind"
	"stanhope/lens"
	"stanhope/put"
	"stanhope/spell"
	"stanhope/trial"
	"stanhope/typ"
	"stanhope/value"
)

// R1: values and plans of any depth, length and width.
func TestFar(t *testing.T) {
	onto.Deep(t)
	onto.Long(t)
	onto.Wide(t)
}

// R1: what stands deep in a source stays there, as far as the view goes along.
func TestDeep(t *testing.T) {
	const n, m = 1 << 17, 1 << 12
	entries := func(n int, s string, v value.Value) value.Value {
		return carve.Nested(n, v, func(v value.Value) value.Value { return carve.Map("n s", carve.Str(s), carve.Seq(v)) })
	}
	p := grind.Plan(env.Defs, "{use: deep}", "$g")
	w, s := entries(2*n, "x", of("{n: x}")), entries(n, "z", of("{n: z}"))
	if got := behind(t, env, p, w, s); !value.Same(got, entries(n+1, "z", entries(n-1, "y", of("{n: y}")))) {
		t.Error("deeper than the source")
	}
	if got := behind(t, env, p, entries(n/2, "x", of("{n: x}")), s); !value.Same(got, entries(n/2, "z", of("{n: z}"))) {
		t.Error("less deep than the source")
	}
	for _, word := range grind.Arounds() {
		l, from, v := grind.Nest(word, m, grind.Lens("{const: {view: x, default: y}}"), spell.Type("str"), carve.Str("z"))
		_, _, view := grind.Nest(word, m, l, from, carve.Str("x"))
		if got := behind(t, env, grind.Made(env.Defs, l, from), view, v); !value.Same(got, v) {
			t.Error(word)
		}
	}
}

// R1: Composes within Composes, ahead of others and behind them.
func TestNested(t *testing.T) {
	const n = 1 << 16
	for first := range 2 {
		l := grind.Lens("{project: {keep: [a], default: {b: 0}}}")
		for range n {
			kids := []lens.Lens{{Kind: lens.Id}, {Kind: lens.Id}}
			kids[first] = l
			l = lens.Lens{Kind: lens.Compose, Kids: kids}
		}
		p := grind.Made(lens.Defs{}, l, spell.Type("{map a:str b:int}"))
		if got, n := put.Run(check.Env{}, p, of("{a: x}"), of("{a: y, b: 1}")); n != 0 || !carve.Equal(got, of("{a: x, b: 1}")) {
			t.Error(first, n, got)
		}
	}
}

// R1: wide sources and views, whose parts belong together in another order, or only some of which do.
func TestWide(t *testing.T) {
	const n = 1 << 16
	k := grind.Plan(env.Defs, "{keyed: {project: {keep: [k]}}}", "$k")
	m := grind.Plan(env.Defs, "{map: {project: {keep: [k]}}}", "{map *:$rec}")
	f := grind.Plan(env.Defs, "{filter: [.int]}", "[seq (str|int)]")
	g := grind.Plan(env.Defs, "{filter: [.int]}", "{map *:(str|int)}")
	var view, old, want, kept, mixed, woven []value.Value
	var keys, half []string
	for i := range n {
		key := "k" + strconv.Itoa(1<<20+i)
		x, y := carve.Map("k", carve.Str(key)), carve.Map("k v", carve.Str(key), carve.Scalar("int", strconv.Itoa(i)))
		view, keys = append(view, x), append(keys, key)
		kept = append(kept, carve.Scalar("int", "7"))
		mixed, woven = append(mixed, carve.Str(key), carve.Scalar("int", "1")), append(woven, carve.Str(key), carve.Scalar("int", "7"))
		if i%2 == 0 {
			old, half = append(old, y), append(half, key)
			x = y
		}
		want = append(want, x)
	}
	entries := func(keys []string, kids []value.Value) value.Value {
		return value.Value{Kind: value.Map, Tag: "map", Keys: keys, Kids: kids}
	}
	equal := func(what string, got, want value.Value) {
		t.Helper()
		if !value.Same(got, want) {
			t.Error(what)
		}
	}
	equal("map", behind(t, env, m, entries(keys, view), entries(half, old)), entries(keys, want))
	slices.Reverse(old)
	equal("keyed", behind(t, env, k, carve.Seq(view...), carve.Seq(old...)), carve.Seq(want...))
	equal("list", behind(t, env, f, carve.Seq(kept...), carve.Seq(mixed...)), carve.Seq(woven...))
	equal("list, nothing put", behind(t, env, f, carve.Seq(), carve.Seq(mixed...)).Kids[n-1], woven[2*(n-1)])
	for i := range kept {
		if i%2 == 0 {
			mixed[i], woven[i] = carve.Scalar("int", "1"), carve.Scalar("int", "7")
		} else {
			mixed[i], woven[i] = carve.Str("x"), carve.Str("x")
		}
	}
	equal("record", behind(t, env, g, entries(half, kept[:len(half)]), entries(keys, mixed[:n])), entries(keys, woven[:n]))
}

// R3, R5: what is handed in stays as it is, with the room behind its end, and what is told is the same each time.
func TestHandedIn(t *testing.T) {
	e, _ := check.Ready(grind.RoomyProgram(grind.Program(trial.Program)))
	defs := grind.WholeEnv(e)
	for _, r := range each {
		p := grind.Made(e.Defs, grind.Roomy(grind.Lens(r.lens)), spell.Roomy(spell.Type(r.source)))
		w, s := carve.Roomy(of(r.view)), carve.Roomy(of(r.old))
		plan, view, old := grind.WholePlan(p), carve.Whole(w), carve.Whole(s)
		first := behind(t, e, p, w, s)
		kept := carve.Whole(first)
		for range 20 {
			if x := behind(t, e, p, w, s); !carve.Equal(x, first) {
				t.Errorf("%s: %+v, not %+v", r.lens, x, first)
			}
		}
		for _, o := range append(carve.Changed(w), carve.Changed(s)...) {
			put.Run(e, p, o, s)
			put.Bare(e, p, o, s)
			put.Run(e, p, w, o)
			put.Bare(e, p, w, o)
		}
		if !carve.Equal(carve.Whole(w), view) || !carve.Equal(carve.Whole(s), old) || !carve.Equal(carve.Whole(first), kept) || !reflect.DeepEqual(grind.WholePlan(p), plan) {
			t.Errorf("%s: %+v into %+v, not %+v into %+v", r.lens, carve.Whole(w), carve.Whole(s), view, old)
		}
	}
	if !reflect.DeepEqual(grind.WholeEnv(e), defs) {
		t.Errorf("%+v, not %+v", e, defs)
	}
}

// R3: parts that two places share, of a view, of a source, or of both, stay apart in what comes of them.
func TestShared(t *testing.T) {
	onto.Shared(t)
	const rec = "[seq {map k:str v?:int}]"
	p := grind.Plan(lens.Defs{}, "{on: {a: {items: {project: {keep: [k]}}}, c: {items: {compose: [{project: {keep: [k]}}, {hoist: k}]}}}}", "{map a:"+rec+" b:"+rec+" c:"+rec+"}")
	items, old := of("[{k: x}, {k: y}]").Kids, of("[{k: v, v: 1}, {k: w, v: 2}, {k: u}]").Kids
	texts := of("[x, y]").Kids
	w := carve.Map("a b c", carve.Seq(items...), carve.Seq(items...), carve.Seq(texts...))
	s := carve.Map("a b c", carve.Seq(old...), carve.Seq(old[1:]...), carve.Seq(old[:1]...))
	want := of("{a: [{k: x, v: 1}, {k: y, v: 2}], b: [{k: x}, {k: y}], c: [{k: x, v: 1}, {k: y}]}")
	for range 3 {
		if got := behind(t, check.Env{}, p, w, s); !carve.Equal(got, want) {
			t.Errorf("%+v", got)
		}
	}
	// A view that is the source itself.
	q := grind.Plan(lens.Defs{}, "{items: {on: {v: {const: {view: 1, default: 5}}}}}", "[seq {map k:str v:int}]")
	both := of("[{k: x, v: 1}, {k: y, v: 1}]")
	if got := behind(t, check.Env{}, q, both, both); !carve.Equal(got, both) || !carve.Equal(both, of("[{k: x, v: 1}, {k: y, v: 1}]")) {
		t.Errorf("%+v, %+v", got, both)
	}
	if typ.Show(q.View) != "[seq {map k:str v:<int \"1\">}]" {
		t.Error(typ.Show(q.View))
	}
}
