package gist_test

import (
	"slices"
	"testing"

	"stanhope/carve"
	"stanhope/check"
	"stanhope/gist"
	"stanhope/grind"
	"stanhope/value"
)

// Views and new sources, a lens of each kind.
func TestGist(t *testing.T) {
	e := grind.Env("{types: {t: '(str|[seq $t])', w: '({map k:str}|[seq $w])'}, lenses: {f: {source: $t, view: $w, lens: {union: [{plunge: k}, {items: {use: f}}]}}}}")
	for _, c := range []struct{ source, lens, value, view, created string }{
		{"str", "id", "x", "x", "x"},
		{"any", "copy", "!leaf 1", "!leaf 1", "!leaf 1"},
		{"[seq str]", "{const: {view: x, default: []}}", "[y]", "x", "[]"},
		{"str", "{compose: [{plunge: a}, {plunge: b}]}", "x", "{b: {a: x}}", "x"},
		{"{map a:str b:int}", "{project: {keep: [a], default: {b: 7}}}", "{a: x, b: 1}", "{a: x}", "{a: x, b: 7}"},
		{"{!m a:str b:int}", "{rename: {a: b, b: a}}", "!m {a: x, b: 1}", "!m {a: 1, b: x}", "!m {a: x, b: 1}"},
		{"{!m a:str}", "{hoist: a}", "!m {a: x}", "x", "!m {a: x}"},
		{"{!m a:{!n b:str} c:str}", "{lift: a}", "!m {a: !n {b: x}, c: y}", "!m {b: x, c: y}", "!m {a: !n {b: x}, c: y}"},
		{"{!m a?:str b:str}", "{sink: {into: c, keys: [a]}}", "!m {b: x}", "!m {b: x, c: {}}", "!m {b: x}"},
		{"[seq (str|int)]", "{filter: [.int]}", "[1, x, 2]", "[1, 2]", "[1, 2]"},
		{"{map *:(str|int)}", "{filter: [.int]}", "{a: 1, b: x}", "{a: 1}", "{a: 1}"},
		{"{map *:str}", "{map: {plunge: k}}", "{a: x}", "{a: {k: x}}", "{a: x}"},
		{"[seq by k {map k:str}]", "{keyed: {compose: [id]}}", "[{k: x}]", "[{k: x}]", "[{k: x}]"},
		{"{map a:str b?:int}", "{on: {a: {plunge: k}, b: {plunge: k}}}", "{a: x}", "{a: {k: x}}", "{a: x}"},
		{"{map a?:int}", "{fill: {key: a, value: 3}}", "{}", "{a: 3}", "{}"},
		{"{map a?:int}", "{fill: {key: a, value: 3}}", "{a: 4}", "{a: 4}", "{a: 4}"},
		{"<str 'a' 'b'>", "{translate: {a: x, b: y}}", "b", "y", "b"},
		{"$t", "{use: f}", "[x, [y]]", "[{k: x}, [{k: y}]]", "[x, [y]]"},
	} {
		p := grind.Plan(e.Defs, c.lens, c.source)
		w, few := gist.Get(e, p, carve.Value(c.value))
		s, less := gist.Create(e, p, carve.Value(c.view))
		if !few || !less || !carve.Equal(w, carve.Value(c.view)) || !carve.Equal(s, carve.Value(c.created)) {
			t.Errorf("%s of %s: %v, %+v, and %v, %+v", c.lens, c.value, few, w, less, s)
		}
	}
}

// What a Compose's Kids make is counted.
func TestMany(t *testing.T) {
	p := grind.Plan(check.Env{}.Defs, "{compose: [{plunge: k}, {hoist: k}]}", "[seq str]")
	for n := 4090; n < 4100; n++ {
		v := carve.Seq(slices.Repeat([]value.Value{carve.Str("x")}, n)...)
		_, got := gist.Get(check.Env{}, p, v)
		_, made := gist.Create(check.Env{}, p, v)
		if want := n+2 <= 4096; got != want || made != want {
			t.Error(n, got, made)
		}
	}
}

// Sources behind views, of lenses that ask what they are put into; all others make new ones.
func TestPut(t *testing.T) {
	e := grind.Env("{types: {t: '(str|[seq $t])', w: '({map k:str}|[seq $w])'}, lenses: {f: {source: $t, view: $w, lens: {union: [{plunge: k}, {items: {use: f}}]}}}}")
	const keep = "{project: {keep: [a], default: {b: 7}}}"
	for _, c := range []struct{ source, lens, view, old, put string }{
		{"str", "id", "x", "y", "x"},
		{"[seq str]", "{const: {view: x, default: []}}", "x", "[y]", "[y]"},
		{"{map a:str b:int}", "{compose: [" + keep + ", {hoist: a}]}", "x", "{a: y, b: 1}", "{a: x, b: 1}"},
		{"{map a:str b:int}", "{compose: [" + keep + ", {compose: [id, {hoist: a}]}]}", "x", "{a: y, b: 1}", "{a: x, b: 1}"},
		{"{!m a:str b:int c?:str}", keep, "!m {a: x}", "!m {a: y, b: 1, c: z}", "!m {a: x, b: 1, c: z}"},
		{"{map a?:str b:int}", keep, "{}", "{a: y, b: 1}", "{b: 1}"},
		{"[seq (str|int)]", "{filter: [.int]}", "[6, 7, 8]", "[a, 1, b, 2, c]", "[a, 6, b, 7, c, 8]"},
		{"[seq (str|int)]", "{filter: [.int]}", "[6]", "[a, 1, b, 2, c]", "[a, 6, b, c]"},
		{"[seq (str|int)]", "{filter: [.int]}", "[]", "[1, a, 2]", "[a]"},
		{"{map *:(str|int)}", "{filter: [.int]}", "{a: 1, b: 2}", "{a: x, b: 3, c: y, d: 4}", "{a: 1, b: 2, c: y}"},
		{"{map *:{map a:str b:int}}", "{map: " + keep + "}", "{k: {a: x}, l: {a: y}}", "{l: {a: z, b: 1}, m: {a: z, b: 2}}", "{k: {a: x, b: 7}, l: {a: y, b: 1}}"},
		{"[seq {map a:str b:int}]", "{items: " + keep + "}", "[{a: x}, {a: y}]", "[{a: y, b: 1}]", "[{a: x, b: 1}, {a: y, b: 7}]"},
		{"[seq by a {map a:str b:int}]", "{keyed: " + keep + "}", "[{a: x}, {a: y}]", "[{a: y, b: 1}]", "[{a: x, b: 7}, {a: y, b: 1}]"},
		{"{map c:{map a:str b:int} d:str e?:{map a:str b:int}}", "{on: {c: " + keep + ", e: " + keep + "}}", "{c: {a: x}, d: y, e: {a: z}}", "{c: {a: z, b: 1}, d: z}", "{c: {a: x, b: 1}, d: y, e: {a: z, b: 7}}"},
		{"(str|{map a:str b:int})", "{union: [{plunge: k}, {compose: [" + keep + ", {hoist: a}]}]}", "x", "{a: y, b: 1}", "{a: x, b: 1}"},
		{"(str|{map a:str b:int})", "{union: [{plunge: k}, {compose: [" + keep + ", {hoist: a}]}]}", "x", "y", "{a: x, b: 7}"},
		{"{map a?:int}", "{fill: {key: a, value: 3}}", "{a: 3}", "{}", "{}"},
		{"{map a?:int}", "{fill: {key: a, value: 3}}", "{a: 3}", "{a: 4}", "{a: 3}"},
		{"{map a?:int}", "{fill: {key: a, value: 3}}", "{a: 4}", "{}", "{a: 4}"},
		{"<str 'a' 'b'>", "{translate: {a: x, b: y}}", "y", "a", "b"},
		{"$t", "{use: f}", "[{k: x}, [{k: y}]]", "z", "[x, [y]]"},
	} {
		p := grind.Plan(e.Defs, c.lens, c.source)
		s, few := gist.Put(e, p, carve.Value(c.view), carve.Value(c.old))
		if !few || !carve.Equal(s, carve.Value(c.put)) {
			t.Errorf("%s of %s into %s: %v, %+v", c.lens, c.view, c.old, few, s)
		}
	}
}

// Of a Compose views are counted, but the last, and what is put back.
func TestManyPut(t *testing.T) {
	p := grind.Plan(check.Env{}.Defs, "{compose: [{plunge: k}, {hoist: k}]}", "[seq str]")
	for n := 4090; n < 4100; n++ {
		v := carve.Seq(slices.Repeat([]value.Value{carve.Str("x")}, n)...)
		_, one := gist.Put(check.Env{}, p, carve.Seq(), v)
		_, other := gist.Put(check.Env{}, p, v, carve.Seq())
		if want := n+2 <= 4096; one != want || other != want {
			t.Error(n, one, other)
		}
	}
}
