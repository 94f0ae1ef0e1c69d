package grind_test

import (
	"reflect"
	"strings"
	"testing"

	"stanhope/carve"
	"stanhope/check"
	"stanhope/grind"
	"stanhope/lens"
	"stanhope/spell"
	"stanhope/typ"
	"stanhope/value"
)

// l is a list of texts.
func l(s ...string) []string { return s }

// id is an Id at a place.
func id(at int) lens.Lens { return lens.Lens{Kind: lens.Id, At: at} }

func TestLens(t *testing.T) {
	cases := []struct {
		text string
		want lens.Lens
	}{
		{"id", id(0)},
		{"copy", lens.Lens{Kind: lens.Copy}},
		{"{const: {view: 1, default: []}}", lens.Lens{Kind: lens.Const, Values: []value.Value{carve.Scalar("int", "1"), carve.Seq()}}},
		{"{compose: []}", lens.Lens{Kind: lens.Compose}},
		{"{compose: [id, copy]}", lens.Lens{Kind: lens.Compose, Kids: []lens.Lens{id(11), {Kind: lens.Copy, At: 15}}}},
		{"{union: [id, {use: f}]}", lens.Lens{Kind: lens.Union, Kids: []lens.Lens{id(9), {Kind: lens.Use, At: 13, Name: "f"}}}},
		{"{project: {keep: [b, a, b]}}", lens.Lens{Kind: lens.Project, Keys: l("b", "a", "b")}},
		{"{project: {keep: [], default: {d: x, c: {}}}}", lens.Lens{Kind: lens.Project, Drops: l("d", "c"), Values: []value.Value{carve.Str("x"), {Kind: value.Map, Tag: "map"}}}},
		{"{rename: {b: c, a: 1}}", lens.Lens{Kind: lens.Rename, Keys: l("b", "a"), Words: l("c", "1")}},
		{"{translate: {b: c, a: 1}}", lens.Lens{Kind: lens.Translate, Keys: l("b", "a"), Words: l("c", "1")}},
		{"{hoist: k}", lens.Lens{Kind: lens.Hoist, Name: "k"}},
		{"{plunge: ''}", lens.Lens{Kind: lens.Plunge}},
		{"{lift: k}", lens.Lens{Kind: lens.Lift, Name: "k"}},
		{"{use: f}", lens.Lens{Kind: lens.Use, Name: "f"}},
		{"{sink: {into: k, keys: [b, a]}}", lens.Lens{Kind: lens.Sink, Name: "k", Keys: l("b", "a")}},
		{"{filter: [.str, .int]}", lens.Lens{Kind: lens.Filter, Words: l(".str", ".int")}},
		{"{map: id}", lens.Lens{Kind: lens.Map, Kids: []lens.Lens{id(6)}}},
		{"{items: {items: id}}", lens.Lens{Kind: lens.Items, Kids: []lens.Lens{{Kind: lens.Items, At: 8, Kids: []lens.Lens{id(16)}}}}},
		{"{keyed: [id, id]}", lens.Lens{Kind: lens.Keyed, Kids: []lens.Lens{id(9), id(13)}}},
		{"{map: []}", lens.Lens{Kind: lens.Map}},
		{"{on: {b: id, a: {use: f}}}", lens.Lens{Kind: lens.On, Keys: l("b", "a"), Kids: []lens.Lens{id(9), {Kind: lens.Use, At: 16, Name: "f"}}}},
		{"{fill: {key: k, value: !a x}}", lens.Lens{Kind: lens.Fill, Name: "k", Values: []value.Value{carve.Scalar("!a", "x")}}},
	}
	for _, c := range cases {
		if got := grind.Lens(c.text); !reflect.DeepEqual(got, c.want) {
			t.Errorf("%s: %+v, not %+v", c.text, got, c.want)
		}
	}
}

func TestDefs(t *testing.T) {
	if got := grind.Defs("{}"); !reflect.DeepEqual(got, lens.Defs{}) {
		t.Errorf("%+v", got)
	}
	want := lens.Defs{Names: l("b", "a"), Lenses: []lens.Def{{Lens: id(4)}, {Lens: lens.Lens{Kind: lens.Use, At: 11, Name: "b"}}}}
	if got := grind.Defs("{b: id, a: {use: b}}"); !reflect.DeepEqual(got, want) {
		t.Errorf("%+v, not %+v", got, want)
	}
}

func TestProgram(t *testing.T) {
	for _, s := range []string{"{}", "{types: {}}", "{types: {}, lenses: {}}"} {
		if got := grind.Program(s); !reflect.DeepEqual(got, lens.Defs{}) {
			t.Errorf("%s: %+v", s, got)
		}
	}
	const text = "{lenses: {b: {source: $t, view: '[seq str]', lens: copy}, a: {lens: {use: b}, view: any, source: \"{map a?:str *:$t}\"}}, types: {t: '(int|$t)'}}"
	place := func(s string) int { return strings.Index(text, s) }
	str := func(at int) typ.Type { return typ.Type{Kind: typ.Scalar, At: at, Tag: "str"} }
	b := lens.Def{Lens: lens.Lens{Kind: lens.Copy, At: place("copy")}, Source: typ.Type{Kind: typ.Name, At: place("$t"), Name: "t"}}
	b.View = typ.Type{Kind: typ.List, At: place("[seq"), Tag: "seq", Items: []typ.Type{str(place("str]"))}}
	a := lens.Def{Lens: lens.Lens{Kind: lens.Use, At: place("{use"), Name: "b"}, View: typ.Type{Kind: typ.Any, At: place("any")}}
	a.Source = typ.Type{Kind: typ.Record, At: place("{map"), Tag: "map", Fields: []typ.Field{{Key: "a", Optional: true, Type: str(place("str *"))}}, Items: []typ.Type{{Kind: typ.Name, At: place("$t}"), Name: "t"}}}
	u := typ.Type{Kind: typ.Union, At: place("(int"), Items: []typ.Type{{Kind: typ.Scalar, At: place("int"), Tag: "int"}, {Kind: typ.Name, At: place("$t)"), Name: "t"}}}
	want := lens.Defs{Types: typ.Defs{Names: l("t"), Types: []typ.Type{u}}, Names: l("b", "a"), Lenses: []lens.Def{b, a}}
	if got := grind.Program(text); !reflect.DeepEqual(got, want) {
		t.Errorf("%+v, not %+v", got, want)
	}
}

// wrong says whether a text is none.
func wrong(s string) (wrong bool) {
	defer func() { wrong = recover() != nil }()
	grind.Lens(s)
	return false
}

func TestWrong(t *testing.T) {
	for _, s := range []string{"", "[", "x", "[id]", "{}", "{id: id}", "{map: id, items: id}", "{map: x}", "{use: []}", "{filter: [[]]}", "{project: {}}", "{const: {view: x}}", "{fill: {value: x}}", "{on: {a: x}}"} {
		if !wrong(s) {
			t.Errorf("%q is a lens: %+v", s, grind.Lens(s))
		}
	}
}

// all are lenses of all kinds.
const all = "{compose: [id, copy, {const: {view: x, default: y}}, {union: [id, id]}, {project: {keep: [a], default: {b: x}}}, {rename: {a: b}}, {translate: {a: b}}, {hoist: n}, {plunge: n}, {lift: n}, {use: n}, " +
	"{sink: {into: n, keys: [a]}}, {filter: [x]}, {map: id}, {items: id}, {keyed: id}, {on: {a: id}}, {fill: {key: n, value: x}}]}"

// What is noisy has all that plays a part, and something in each other field.
func TestNoisy(t *testing.T) {
	x := grind.Lens(all)
	n := grind.Noisy(x)
	if f := n.Check(); f.Bad() || x.Check().Bad() || n.Size() != x.Size() || len(n.Kids) != 18 {
		t.Errorf("%v at %d: %+v", f, f.At, n)
	}
	for i, k := range n.Kids {
		o := x.Kids[i]
		if k.Kind != o.Kind || k.At != o.At || k.Name == "" || len(k.Keys) == 0 || len(k.Words) == 0 || len(k.Drops) == 0 || len(k.Kids) == 0 || len(k.Values) == 0 {
			t.Errorf("%+v of %+v", k, o)
		}
	}
	d := lens.Defs{Names: l("a"), Lenses: []lens.Def{{Lens: x}}}
	if m := grind.NoisyDefs(d); !reflect.DeepEqual(m.Lenses[0].Lens, n) || !reflect.DeepEqual(d.Lenses[0].Lens, x) {
		t.Errorf("%+v", m)
	}
}

// What is roomy has room behind the ends of its lists, which is to be seen of the whole.
func TestRoom(t *testing.T) {
	r := grind.Roomy(grind.Lens(all))
	if f := r.Check(); f.Bad() || r.Size() != 25 || cap(r.Kids) <= len(r.Kids) || cap(r.Kids[4].Drops) <= len(r.Kids[4].Drops) {
		t.Errorf("%v at %d: %+v", f, f.At, r)
	}
	was := grind.Whole(r)
	if !reflect.DeepEqual(was, grind.Whole(r)) {
		t.Errorf("%+v", was)
	}
	_ = append(r.Kids[4].Drops, "written")
	if reflect.DeepEqual(was, grind.Whole(r)) {
		t.Errorf("%+v: what is written behind the end isn't seen", was)
	}
}

// program is a text of definitions that may be.
const program = "{types: {s: str}, lenses: {f: {source: $s, view: '{map k:$s}', lens: {plunge: k}}, g: {source: '[seq $s]', view: '[seq {map k:$s}]', lens: {items: {use: f}}}}}"

func TestEnv(t *testing.T) {
	e := grind.Env(program)
	want, f := check.Ready(grind.Program(program))
	if f.Bad() || !reflect.DeepEqual(e, want) || len(e.Plans) != 2 {
		t.Errorf("%v: %+v, not %+v", f, e, want)
	}
	p := grind.Plan(e.Defs, "{compose: [{items: {use: f}}, id]}", "[seq $s]")
	q, f := check.Check(e.Defs, p.Lens, p.Source)
	if f.Bad() || !reflect.DeepEqual(p, q) || typ.Show(p.Source) != "[seq $s]" || typ.Show(p.View) != "[seq {map k:$s}]" {
		t.Errorf("%v: %+v", f, p)
	}
	for i, wrong := range []func(){
		func() { grind.Env("{types: {s: '(str)'}}") },
		func() { grind.Plan(e.Defs, "copy", "$s") },
		func() { grind.Plan(e.Defs, "id", "$none") },
	} {
		if !panics(wrong) {
			t.Error(i)
		}
	}
}

// panics says whether a call does.
func panics(call func()) (yes bool) {
	defer func() { yes = recover() != nil }()
	call()
	return false
}

// What is noisy, or roomy, says the same; what is written behind an end is to be seen of the whole.
func TestNoisyProgram(t *testing.T) {
	d := grind.Program(program)
	e := grind.Env(program)
	for i, x := range []lens.Defs{grind.NoisyProgram(d), grind.RoomyProgram(d)} {
		other, f := check.Ready(x)
		if f.Bad() || i == 0 && reflect.DeepEqual(x, d) {
			t.Errorf("%d: %v at %d: %+v", i, f, f.At, x)
		}
		for k, p := range other.Plans {
			if typ.Show(p.View) != typ.Show(e.Plans[k].View) {
				t.Errorf("%d: %s", i, typ.Show(p.View))
			}
		}
	}
	r := grind.RoomyProgram(d)
	was := grind.WholeProgram(r)
	_ = append(r.Lenses[1].Source.Items, typ.Type{})
	if reflect.DeepEqual(was, grind.WholeProgram(r)) || !reflect.DeepEqual(grind.WholeProgram(d), d) {
		t.Errorf("%+v", was)
	}
	roomy, _ := check.Ready(r)
	old := grind.WholeEnv(roomy)
	if !reflect.DeepEqual(old, grind.WholeEnv(roomy)) {
		t.Errorf("%+v", old)
	}
	_ = append(roomy.Plans[0].Source.Words, "written")
	if reflect.DeepEqual(old, grind.WholeEnv(roomy)) {
		t.Errorf("%+v", old)
	}
	p := roomy.Plans[1]
	before := grind.WholePlan(p)
	p.Kids[0].Lens.Name = "written"
	if reflect.DeepEqual(before, grind.WholePlan(p)) {
		t.Errorf("%+v", before)
	}
}

// What is nested is right, with a source that is one.
func TestNest(t *testing.T) {
	for _, word := range grind.Arounds() {
		l, s, v := grind.Nest(word, 3, grind.Lens("id"), spell.Type("str"), carve.Str("x"))
		p := grind.Made(lens.Defs{}, l, s)
		if !value.Of(typ.Defs{}, p.Source, v) || l.Size() < 4 || check.Word(l.Kind) != word || check.Word(l.Kids[0].Kind) != word && word != "compose" && word != "keyed" {
			t.Errorf("%s: %+v by %s, %+v", word, l, typ.Show(s), v)
		}
	}
}
