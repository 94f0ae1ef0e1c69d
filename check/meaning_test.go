package check_test

import (
	"math/rand"
	"testing"

	"stanhope/brew"
	"stanhope/check"
	"stanhope/gist"
	"stanhope/grind"
	"stanhope/lens"
	"stanhope/spell"
	"stanhope/typ"
	"stanhope/value"
)

// These tests ask whether a plan's types are those of what its lens does, by a plain reading of layers 20 and 21.

// holdMeaning holds a plan's types against what its lens does with values of these.
func holdMeaning(t *testing.T, m *brew.Maker, e check.Env, p check.Plan) {
	t.Helper()
	for range 3 {
		v := m.Value(p.Source, 3)
		if !value.Of(m.Types, p.Source, v) {
			t.Fatalf("%+v is no %s", v, typ.Show(p.Source))
		}
		if w, ok := gist.Get(e, p, v); !ok || !value.Of(m.Types, p.View, w) || !w.May() {
			t.Fatalf("%s by %s: of %+v comes %+v, which is no %s", show(p.Lens), typ.Show(p.Source), v, w, typ.Show(p.View))
		}
		w := m.Value(p.View, 3)
		if !value.Of(m.Types, p.View, w) {
			t.Fatalf("%+v is no %s", w, typ.Show(p.View))
		}
		s, ok := gist.Create(e, p, w)
		if !ok || !value.Of(m.Types, p.Source, s) || !s.May() {
			t.Fatalf("%s by %s: of %+v is made %+v, which is none", show(p.Lens), typ.Show(p.Source), w, s)
		}
		if x, ok := gist.Get(e, p, s); !ok || !value.Same(x, w) {
			t.Fatalf("%s by %s: of %+v is made %+v, of which comes %+v", show(p.Lens), typ.Show(p.Source), w, s, x)
		}
	}
}

// W5: a lens leads from its type of sources to its type of views, and back.
func TestMeaning(t *testing.T) {
	m := &brew.Maker{Pick: rand.New(rand.NewSource(5)).Intn, Often: 200}
	m.Types = spell.Defs(brew.Names)
	kinds := map[lens.Kind]int{}
	for range 300 {
		env := m.Define(5)
		for _, p := range env.Plans {
			holdMeaning(t, m, env, p)
		}
		for range 30 {
			p := m.Plan()
			brew.Count(p.Lens, kinds)
			holdMeaning(t, m, env, p)
		}
	}
	for k := lens.Id; k <= lens.Use; k++ {
		if kinds[k] < 50 {
			t.Errorf("%s: %d", check.Word(k), kinds[k])
		}
	}
}

// W5: definitions that lead back to themselves, too.
func TestMeaningDefs(t *testing.T) {
	env, f := check.Ready(defs)
	if f.Bad() {
		t.Fatal(f, f.At)
	}
	m := &brew.Maker{Pick: rand.New(rand.NewSource(6)).Intn, Defs: defs, Often: 200}
	for range 200 {
		for _, p := range env.Plans {
			holdMeaning(t, m, env, p)
		}
		for _, c := range all {
			p, f := check.Check(defs, grind.Lens(c.lens), spell.Type(c.right))
			if f.Bad() {
				t.Fatalf("%s by %s: %v at %d", c.lens, c.right, f, f.At)
			}
			holdMeaning(t, m, env, p)
		}
	}
}
