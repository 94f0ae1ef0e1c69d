package trial

import (
	"stanhope/carve"
	"stanhope/check"
	"stanhope/grind"
	"stanhope/lens"
	"stanhope/spell"
	"stanhope/typ"
	"stanhope/value"
)

// HandedIn holds that what is handed in stays as it is, with the room behind its end, and that
// what is told is the same each time. equal tells whether two things are alike, whatever they
// are (reflect.DeepEqual); others are calls that are to leave it as it is, too.
func (l Rows) HandedIn(t T, w Way, equal func(a, b any) bool, others func(check.Env, check.Plan, value.Value)) {
	t.Helper()
	e, _ := check.Ready(grind.RoomyProgram(grind.Program(Program)))
	old := grind.WholeEnv(e)
	for _, r := range l {
		p := grind.Made(e.Defs, grind.Roomy(grind.Lens(r.Lens)), spell.Roomy(spell.Type(r.Source)))
		v := carve.Roomy(carve.Value(r.From))
		plan, was := grind.WholePlan(p), carve.Whole(v)
		first := w.Made(t, e, p, v)
		kept := carve.Whole(first)
		for range 20 {
			if x := w.Made(t, e, p, v); !carve.Equal(x, first) {
				t.Errorf("%s: %+v, not %+v", r.Lens, x, first)
			}
			others(e, p, v)
		}
		for _, o := range carve.Changed(v) {
			w.Run(e, p, o)
			w.Bare(e, p, o)
			others(e, p, o)
		}
		if !carve.Equal(carve.Whole(v), was) || !carve.Equal(carve.Whole(first), kept) || !equal(grind.WholePlan(p), plan) {
			t.Errorf("%s: %+v and %+v, not %+v and %+v", r.Lens, carve.Whole(v), grind.WholePlan(p), was, plan)
		}
	}
	if !equal(grind.WholeEnv(e), old) {
		t.Errorf("%+v, not %+v", e, old)
	}
}

// Shared holds that parts that two places of a value share stay apart in what is made of it.
func (w Way) Shared(t T) {
	t.Helper()
	p := grind.Plan(lens.Defs{}, "{on: {a: {items: {plunge: k}}, c: {items: {compose: [{plunge: l}, {rename: {l: k}}]}}, d: {items: {hoist: k}}}}", "{map a:[seq str] b:[seq str] c:[seq str] d:[seq {map k:str}] e:[seq {map k:str}]}")
	source := func(bare, in []value.Value) value.Value {
		return carve.Map("a b c d e", carve.Seq(bare...), carve.Seq(bare...), carve.Seq(bare[:1]...), carve.Seq(in...), carve.Seq(in[1:]...))
	}
	view := func(bare, in []value.Value) value.Value {
		return carve.Map("a b c d e", carve.Seq(in...), carve.Seq(bare...), carve.Seq(in[:1]...), carve.Seq(bare...), carve.Seq(in[1:]...))
	}
	bare, in := carve.Value("[x, y]").Kids, carve.Value("[{k: x}, {k: y}]").Kids
	w.Pair(t, check.Env{}, p, source(bare, in), view(bare, in))
	if !carve.Equal(carve.Seq(bare...), carve.Value("[x, y]")) || !carve.Equal(carve.Seq(in...), carve.Value("[{k: x}, {k: y}]")) {
		t.Errorf("%+v, %+v", bare, in)
	}
}

// Empty holds that nil and empty lists are one.
func (w Way) Empty(t T) {
	t.Helper()
	e := check.Env{Defs: lens.Defs{Types: typ.Defs{Names: []string{}, Types: []typ.Type{}}, Names: []string{}, Lenses: []lens.Def{}}, Plans: []check.Plan{}}
	project := lens.Lens{Kind: lens.Project, Keys: []string{}, Words: []string{}, Drops: []string{}, Kids: []lens.Lens{}, Values: []value.Value{}}
	none := typ.Type{Kind: typ.Record, Tag: "map", Words: []string{}, Fields: []typ.Field{}, Items: []typ.Type{}}
	plans := []check.Plan{{Lens: project, Source: none, View: none, Kids: []check.Plan{}}}
	for _, r := range [...][2]string{
		{"{project: {keep: []}}", "{map}"},
		{"{rename: {a: b}}", "{map a?:str}"},
		{"{on: {a: {plunge: k}}}", "{map a?:str}"},
		{"{map: {plunge: k}}", "{map *:str}"},
		{"{filter: [.int]}", "{map *:(str|int)}"},
		{"{items: {plunge: k}}", "[seq str]"},
		{"{keyed: id}", "[seq by k {map k:str}]"},
		{"{filter: [.int]}", "[seq (str|int)]"},
	} {
		plans = append(plans, grind.Plan(lens.Defs{}, r[0], r[1]))
	}
	for _, p := range plans {
		bare := carve.Map("")
		if p.Source.Kind != typ.Record {
			bare = carve.Seq()
		}
		empty := bare
		empty.Keys, empty.Kids = []string{}, []value.Value{}
		for _, v := range [...]value.Value{bare, empty} {
			w.Pair(t, e, p, v, bare)
			w.Pair(t, check.Env{}, p, v, empty)
		}
	}
}
