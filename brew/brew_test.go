package brew_test

import (
	"math/rand"
	"reflect"
	"testing"

	"stanhope/api"
	"stanhope/brew"
	"stanhope/check"
	"stanhope/lens"
	"stanhope/spell"
	"stanhope/typ"
	"stanhope/value"
)

// maker makes what falls by a number.
func maker(seed int64, often int) *brew.Maker {
	m := &brew.Maker{Pick: rand.New(rand.NewSource(seed)).Intn, Often: often}
	m.Types = spell.Defs(brew.Names)
	return m
}

// What is made may be: types, values of them, lenses that layer 17 lets stand, definitions that are ready.
func TestMade(t *testing.T) {
	m := maker(1, 20)
	types, kinds, met := map[typ.Kind]int{}, map[lens.Kind]int{}, map[api.Errno]int{}
	for range 200 {
		e := m.Define(4)
		if len(e.Plans) == 0 || len(e.Plans) > 4 || !reflect.DeepEqual(e.Defs.Names, m.Names) {
			t.Fatalf("%+v", e)
		}
		for range 20 {
			s := m.Typ(m.Pick(4))
			types[s.Kind]++
			if f := typ.Check(m.Types, s); f.Bad() {
				t.Fatalf("%s: %v", typ.Show(s), f)
			}
			if v := m.Value(s, m.Pick(4)); !v.May() || !value.Of(m.Types, s, v) {
				t.Fatalf("%+v is no %s", v, typ.Show(s))
			}
			l := m.Lens(s, m.Pick(4))
			if f := l.Check(); f.Bad() {
				t.Fatalf("%+v: %v", l, f)
			}
			brew.Count(l, kinds)
			_, f := check.Check(m.Defs, l, s)
			met[f.Errno]++
			p := m.Plan()
			if q, f := check.Check(e.Defs, p.Lens, p.Source); f.Bad() || !reflect.DeepEqual(p, q) {
				t.Fatalf("%+v: %v", p, f)
			}
		}
	}
	if len(types) != 9 || len(kinds) != 19 || met[api.OK] < 1000 || met[api.ErrLens] < 500 || met[api.ErrName] < 10 {
		t.Error(types, kinds, met)
	}
}

// What is made hangs on what is picked alone.
func TestSame(t *testing.T) {
	one, two := maker(7, 50), maker(7, 50)
	for range 50 {
		if a, b := one.Define(4), two.Define(4); !reflect.DeepEqual(a, b) {
			t.Fatalf("%+v and %+v", a, b)
		}
		p, q := one.Plan(), two.Plan()
		if v, w := one.Value(p.View, 3), two.Value(q.View, 3); !reflect.DeepEqual(p, q) || !reflect.DeepEqual(v, w) {
			t.Fatalf("%+v and %+v", v, w)
		}
	}
}
