package put_test

import (
	"math/rand"
	"slices"
	"testing"

	"stanhope/api"
	"stanhope/brew"
	"stanhope/carve"
	"stanhope/check"
	"stanhope/create"
	"stanhope/gist"
	"stanhope/grind"
	"stanhope/lens"
	"stanhope/put"
	"stanhope/spell"
	"stanhope/trial"
	"stanhope/typ"
	"stanhope/value"
)

// each are lenses of each kind, with a view and a source.
var each = rows{
	{source: "{map a:[seq any]}", lens: "id", view: "{a: [!leaf 1, !leaf 2]}", old: "{a: [!leaf 3]}"},
	{source: "any", lens: "copy", view: "!leaf 1", old: "!leaf 2"},
	{source: "[seq str]", lens: "{const: {view: x, default: []}}", view: "x", old: "[x, y]"},
	{source: "{map a:[seq str] b:[seq str]}", lens: "{compose: [{project: {keep: [a], default: {b: []}}}, {rename: {a: b}}, {hoist: b}]}", view: "[x, y]", old: "{a: [z], b: [v, w]}"},
	{source: "{map a:str b:[seq str] c:[seq any]}", lens: "{project: {keep: [b], default: {a: '', c: []}}}", view: "{b: [x, y]}", old: "{a: x, b: [z], c: [!leaf 0]}"},
	{source: "{map a:str b:[seq str]}", lens: "{rename: {a: b, b: a}}", view: "{a: [x, y], b: x}", old: "{a: z, b: []}"},
	{source: "{map a:[seq str]}", lens: "{hoist: a}", view: "[x, y]", old: "{a: [z]}"},
	{source: "[seq str]", lens: "{plunge: a}", view: "{a: [x, y]}", old: "[z]"},
	{source: "{map a:$rec b:[seq str]}", lens: "{lift: a}", view: "{b: [x, y], k: x, v: 1}", old: "{a: {k: y}, b: []}"},
	{source: "{map a:[seq str] b:int}", lens: "{sink: {into: k, keys: [a]}}", view: "{b: 1, k: {a: [x, y]}}", old: "{a: [z], b: 2}"},
	{source: "[seq (str|int)]", lens: "{filter: [.str]}", view: "[x, y, z]", old: "[1, v, 2, w]"},
	{source: "{map *:$u}", lens: "{filter: ['[seq']}", view: "{b: [x], d: [y, z]}", old: "{a: [v], b: w, c: 1, d: []}"},
	{source: "{map *:[seq {map k:str v?:int}]}", lens: "{map: {items: {project: {keep: [k]}}}}", view: "{a: [{k: x}, {k: y}], b: []}", old: "{a: [{k: v, v: 1}], c: [{k: w, v: 2}]}"},
	{source: "[seq {map *:$rec}]", lens: "{items: {map: {use: fill}}}", view: "[{a: {k: x, v: 0}}]", old: "[{a: {k: y, v: 1}, b: {k: z}}, {}]"},
	{source: "$k", lens: "{keyed: {project: {keep: [k]}}}", view: "[{k: x}, {k: y}]", old: "[{k: y, v: 1}, {k: z, v: 2}]"},
	{source: "{map a:[seq str] b:str c?:int}", lens: "{on: {a: {items: {plunge: k}}, c: {plunge: l}}}", view: "{a: [{k: x}], b: z, c: {l: 1}}", old: "{a: [x, y], b: w}"},
	{source: "(str|[seq str])", lens: "{union: [{plunge: k}, {items: {const: {view: 1, default: d}}}]}", view: "[1, 1]", old: "[x, y, z]"},
	{source: "{map a:[seq str] b?:str}", lens: "{fill: {key: b, value: y}}", view: "{a: [x], b: y}", old: "{a: []}"},
	{source: "$e", lens: "{translate: {a: b, b: a}}", view: "a", old: "a"},
	{source: "$g", lens: "{use: deep}", view: "{n: x, s: [{n: x}, {n: x, s: []}]}", old: "{n: a, s: [{n: b, s: [{n: c}]}]}"},
}

// changed holds what comes of views and sources, of which either has one thing changed, if they may be handed in.
func changed(t *testing.T, e check.Env, p check.Plan, w, s value.Value, met map[api.Errno]int) {
	t.Helper()
	try := func(x, y value.Value, may bool) {
		t.Helper()
		if may {
			hold(t, e, p, x, y)
			met[api.OK]++
			return
		}
		wrong(t, e, p, x, y, api.ErrType)
		put.Bare(e, p, x, y)
		met[api.ErrType]++
	}
	for _, x := range carve.Changed(w) {
		try(x, s, x.May() && value.Of(e.Defs.Types, p.View, x))
	}
	for _, y := range carve.Changed(s) {
		try(w, y, y.May() && value.Of(e.Defs.Types, p.Source, y))
	}
}

// P22.1 to P22.3: a view and a source of each kind, with one thing changed.
func TestEach(t *testing.T) {
	met := make(map[api.Errno]int)
	for _, r := range each {
		p, w, s := grind.Plan(env.Defs, r.lens, r.source), of(r.view), of(r.old)
		hold(t, env, p, w, s)
		own(t, env, p, s)
		changed(t, env, p, w, s, met)
	}
	if met[api.OK] < 5*len(each) || met[api.ErrType] < 20*len(each) {
		t.Error(met)
	}
}

// maker makes what falls by a number.
func maker(seed int64) *brew.Maker {
	m := &brew.Maker{Pick: rand.New(rand.NewSource(seed)).Intn, Often: 200}
	m.Types = spell.Defs(brew.Names)
	return m
}

// P22.1 to P22.3: lenses, types, views and sources as they fall; a source's own view, and that with one thing changed.
func TestFall(t *testing.T) {
	m, kinds, met, owned := maker(221), make(map[lens.Kind]int), make(map[api.Errno]int), 0
	for range 200 {
		e := m.Define(5)
		plans := slices.Clone(e.Plans)
		for range 40 {
			plans = append(plans, m.Plan())
		}
		for _, p := range plans {
			brew.Count(p.Lens, kinds)
			for range 3 {
				hold(t, e, p, m.Value(p.View, 3), m.Value(p.Source, 3))
			}
			s := m.Value(p.Source, 3)
			if w, ok := own(t, e, p, s); ok {
				owned++
				if w.Size()+s.Size() < 20 {
					changed(t, e, p, w, s, met)
				}
			}
		}
	}
	for k := lens.Id; k <= lens.Use; k++ {
		if kinds[k] < 30 {
			t.Errorf("%s: %d", check.Word(k), kinds[k])
		}
	}
	if met[api.OK] < 10000 || met[api.ErrType] < 10000 || owned < 5000 {
		t.Error(met, owned)
	}
}

// P22.2: kinds by which a source behind is a new source are met often enough, alone and with one another.
func TestOnly(t *testing.T) {
	m, met := maker(222), make(map[int]int)
	e := m.Define(1)
	for range 20000 {
		p := m.Plan()
		if !only(p.Lens) {
			continue
		}
		met[min(p.Lens.Size(), 4)]++
		hold(t, e, p, m.Value(p.View, 3), m.Value(p.Source, 3))
	}
	for n := 1; n <= 4; n++ {
		if met[n] < 30 {
			t.Error(met)
		}
	}
}

// P22.1 to P22.3: definitions that lead back to themselves.
func TestDefined(t *testing.T) {
	m := maker(223)
	m.Defs = env.Defs
	for range 300 {
		for _, p := range env.Plans {
			s := m.Value(p.Source, 6)
			hold(t, env, p, m.Value(p.View, 6), s)
			own(t, env, p, s)
		}
	}
}

// P22.1: Composes, as they fall, of about as many nodes as there may be.
func TestFull(t *testing.T) {
	m, met := maker(224), make(map[bool]int)
	for range 120 {
		c := lens.Lens{Kind: lens.Compose, Kids: []lens.Lens{{Kind: lens.Id}}}
		start := spell.Type("[seq (str|int)]")
		s := start
		for range m.Pick(5) {
			l := grind.Lens([]string{"id", "{plunge: k}", "{hoist: k}", "{filter: [.str]}", "{items: id}", "{compose: [{plunge: k}, {plunge: k}, {hoist: k}]}"}[m.Pick(6)])
			if p, f := check.Check(env.Defs, l, s); !f.Bad() {
				c.Kids, s = append(c.Kids, l), p.View
			}
		}
		p := grind.Made(env.Defs, c, start)
		view, old := trial.Scalars(4089+m.Pick(12)), trial.Scalars(4089+m.Pick(12))
		if m.Pick(2) == 0 {
			view = trial.Scalars(1)
		} else if m.Pick(2) == 0 {
			old = trial.Scalars(1)
		}
		for in := p.View; in.Kind == typ.Record; in = in.Fields[0].Type {
			view = carve.Map("k", view)
		}
		_, few := gist.Put(env, p, view, old)
		met[few]++
		hold(t, env, p, view, old)
		own(t, env, p, old)
	}
	if met[true] < 20 || met[false] < 20 {
		t.Error(met)
	}
}

// R1, R2: whatever is handed in.
func TestScrap(t *testing.T) {
	m := maker(225)
	made := m.Define(3)
	plans := append(slices.Clone(env.Plans), check.Plan{})
	for k := lens.Kind(-1); k <= 20; k++ {
		// Nothing that the kind asks for.
		plans = append(plans, check.Plan{Lens: lens.Lens{Kind: k, Values: make([]value.Value, 2), Kids: make([]lens.Lens, 2)}})
	}
	for range 300 {
		plans = append(plans, m.Plan())
	}
	odd := carve.Odd()
	for _, r := range each {
		odd = append(odd, of(r.view), of(r.old), carve.Noisy(of(r.view)), carve.Noisy(of(r.old)))
	}
	// Definitions of the same names, by which other types stand for them.
	others := grind.Env("{types: {e: any, in: str, l: '{map a?:str}', n: '[seq $l]', s: '(int|[seq $s])', t: '(str|{map *:$t})', u: '(int|str)'}, lenses: {f0: {source: $t, view: $t, lens: {union: [id, {map: {use: f0}}]}}, grow: {source: $s, view: $s, lens: {union: [id, {items: {use: grow}}]}}}}")
	met := make(map[api.Errno]int)
	for _, e := range []check.Env{{}, made, env, noisy, others} {
		for _, p := range plans {
			any := []func() value.Value{
				func() value.Value { return m.Value(p.View, 3) },
				func() value.Value { return m.Value(p.Source, 3) },
				func() value.Value { return m.Value(m.Typ(m.Pick(3)), 3) },
				func() value.Value { return odd[m.Pick(len(odd))] },
			}
			for range 40 {
				w, s := any[m.Pick(4)](), any[m.Pick(4)]()
				for _, call := range [...]func(check.Env, check.Plan, value.Value, value.Value) (value.Value, api.Errno){put.Run, put.Bare} {
					x, n := call(e, p, w, s)
					if n != api.OK && (!carve.Equal(x, value.Value{}) || n != api.ErrType && n != api.ErrNodes) {
						t.Fatalf("%s of %s into %s: %v, %s", trial.Brief(p), trial.Short(w), trial.Short(s), n, trial.Short(x))
					}
					met[n]++
				}
			}
		}
	}
	if met[api.OK] < 5000 || met[api.ErrType] < 5000 {
		t.Error(met)
	}
}

// onto is the way to sources behind views that are put into their own new sources, which these are again.
var onto = trial.Way{
	Run: func(e check.Env, p check.Plan, w value.Value) (value.Value, api.Errno) {
		return put.Run(e, p, w, fresh(e, p, w))
	},
	Bare: func(e check.Env, p check.Plan, w value.Value) (value.Value, api.Errno) {
		return put.Bare(e, p, w, fresh(e, p, w))
	},
	Back:  true,
	Plain: gist.Create,
	Law: func(e check.Env, p check.Plan, w, s value.Value) string {
		if !value.Same(s, fresh(e, p, w)) {
			return "another source"
		}
		return ""
	},
}

// fresh is a view's new source, too great ones among them.
func fresh(e check.Env, p check.Plan, w value.Value) value.Value {
	s, n := create.Bare(e, p, w)
	if n == api.ErrNodes {
		s, _ = gist.Create(e, p, w)
	}
	return s
}

// P22.2: a new source, whose own view is put into it.
func TestOnto(t *testing.T) {
	onto.Fall(t, rand.New(rand.NewSource(226)).Intn)
	onto.Defined(t, rand.New(rand.NewSource(227)).Intn)
	onto.Full(t, rand.New(rand.NewSource(228)).Intn)
}

// R4: nil and empty lists are one.
func TestEmpty(t *testing.T) { onto.Empty(t) }
