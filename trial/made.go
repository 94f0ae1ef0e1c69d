package trial

import (
	"slices"

	"stanhope/api"
	"stanhope/brew"
	"stanhope/carve"
	"stanhope/check"
	"stanhope/grind"
	"stanhope/lens"
	"stanhope/spell"
	"stanhope/typ"
	"stanhope/value"
)

// Changed holds what is told of values that come of one, which a plan may be handed or not; it counts the errors.
func (w Way) Changed(t T, e check.Env, p check.Plan, v value.Value, met map[api.Errno]int) {
	t.Helper()
	for _, c := range carve.Changed(v) {
		if c.May() && value.Of(e.Defs.Types, w.from(p), c) {
			w.Hold(t, e, p, c)
			met[api.OK]++
			continue
		}
		w.Wrong(t, e, p, c, api.ErrType)
		w.Bare(e, p, c)
		met[api.ErrType]++
	}
}

// Each holds what is told of what the plans are handed, and of that with one thing changed; what comes of it is left aside.
func (l Rows) Each(t T, w Way) {
	t.Helper()
	e, met := Env(), make(map[api.Errno]int)
	for _, r := range l {
		p, v := grind.Plan(e.Defs, r.Lens, r.Source), carve.Value(r.From)
		w.Hold(t, e, p, v)
		w.Changed(t, e, p, v, met)
	}
	if met[api.OK] < len(l) || met[api.ErrType] < 5*len(l) {
		t.Errorf("%v", met)
	}
}

// maker makes what falls as it is picked.
func maker(pick func(int) int) *brew.Maker {
	m := &brew.Maker{Pick: pick, Often: 200}
	m.Types = spell.Defs(brew.Names)
	return m
}

// Fall holds what is made by lenses of values, as they fall.
func (w Way) Fall(t T, pick func(int) int) {
	t.Helper()
	m := maker(pick)
	kinds, met := make(map[lens.Kind]int), make(map[api.Errno]int)
	for range 200 {
		e := m.Define(5)
		plans := slices.Clone(e.Plans)
		for range 40 {
			plans = append(plans, m.Plan())
		}
		for _, p := range plans {
			brew.Count(p.Lens, kinds)
			for range 3 {
				w.Hold(t, e, p, m.Value(w.from(p), 3))
			}
			if v := m.Value(w.from(p), 2); v.Size() < 10 {
				w.Changed(t, e, p, v, met)
			}
		}
	}
	for k := lens.Id; k <= lens.Use; k++ {
		if kinds[k] < 50 {
			t.Errorf("%s: %d", check.Word(k), kinds[k])
		}
	}
	if met[api.OK] < 5000 || met[api.ErrType] < 5000 {
		t.Errorf("%v", met)
	}
}

// Defined holds what is made by the definitions of Program, of values as they fall.
func (w Way) Defined(t T, pick func(int) int) {
	t.Helper()
	e, m := Env(), maker(pick)
	m.Defs = e.Defs
	for range 300 {
		for _, p := range e.Plans {
			w.Hold(t, e, p, m.Value(w.from(p), 6))
		}
	}
}

// Full holds what is made by Composes, as they fall, of about as many nodes as there may be.
func (w Way) Full(t T, pick func(int) int) {
	t.Helper()
	e, met := Env(), make(map[bool]int)
	for range 150 {
		c := lens.Lens{Kind: lens.Compose, Kids: []lens.Lens{{Kind: lens.Id}}}
		start := spell.Type("[seq str]")
		s := start
		for range pick(6) {
			l := grind.Lens([]string{"id", "{plunge: k}", "{hoist: k}", "{use: big}"}[pick(4)])
			if p, f := check.Check(e.Defs, l, s); !f.Bad() {
				c.Kids, s = append(c.Kids, l), p.View
			}
		}
		p := grind.Made(e.Defs, c, start)
		v := Scalars(4086 + pick(12))
		for in := w.from(p); in.Kind == typ.Record; in = in.Fields[0].Type {
			v = carve.Map("k", v)
		}
		_, few := w.Plain(e, p, v)
		met[few]++
		w.Hold(t, e, p, v)
	}
	if met[true] < 20 || met[false] < 20 {
		t.Errorf("%v", met)
	}
}

// Scrap holds that whatever is handed in each call ends, and that what stands beside an error is zero.
func (l Rows) Scrap(t T, w Way, pick func(int) int) {
	t.Helper()
	m := maker(pick)
	own := m.Define(3)
	plans := append(slices.Clone(Env().Plans), check.Plan{})
	for range 300 {
		plans = append(plans, m.Plan())
	}
	odd := carve.Odd()
	for _, r := range l {
		odd = append(odd, carve.Value(r.From), carve.Noisy(carve.Value(r.From)))
	}
	// Definitions of the same names, by which other types stand for them, or none do.
	others := grind.Env("{types: {e: any, in: str, l: '{map a?:str}', n: '[seq $l]', s: '(int|[seq $s])', t: '(str|{map *:$t})', u: '(int|str)'}, lenses: {f0: {source: $t, view: $t, lens: {union: [id, {map: {use: f0}}]}}, grow: {source: $s, view: $s, lens: {union: [id, {items: {use: grow}}]}}}}")
	met := make(map[api.Errno]int)
	for _, e := range []check.Env{{}, own, Env(), Noisy(), others} {
		for _, p := range plans {
			for range 20 {
				w.ends(t, e, p, m.Value(m.Typ(m.Pick(3)), 3), met)
				w.ends(t, e, p, m.Value(w.from(plans[m.Pick(len(plans))]), 3), met)
				w.ends(t, e, p, odd[m.Pick(len(odd))], met)
			}
		}
	}
	if met[api.OK] < 5000 || met[api.ErrType] < 5000 {
		t.Errorf("%v", met)
	}
}

// ends holds that calls end, with a value or an error alone.
func (w Way) ends(t T, e check.Env, p check.Plan, v value.Value, met map[api.Errno]int) {
	t.Helper()
	for _, call := range [...]Call{w.Run, w.Bare} {
		x, n := call(e, p, v)
		if n != api.OK && (!carve.Equal(x, value.Value{}) || n != api.ErrType && n != api.ErrNodes) {
			t.Fatalf("%s of %s: %v, %s", Brief(p), Short(v), n, Short(x))
		}
		met[n]++
	}
}
