package strew_test

import (
	"math/rand"
	"testing"

	"stanhope/load"
	"stanhope/program"
	"stanhope/strew"
	"stanhope/typ"
	"stanhope/value"
)

// falling makes what falls by a number.
func falling(seed int64) strew.Maker { return strew.New(rand.New(rand.NewSource(seed)).Intn) }

// What falls is a program, and documents of its types, more often than not.
func TestTexts(t *testing.T) {
	m := falling(1)
	views, sources, leaves := 0, 0, 0
	for range 10 {
		m.Define(4)
		for range 30 {
			l, view, source := m.Texts()
			p, f := program.Ready(l)
			if f.Bad() {
				t.Fatalf("%s: %v at %d", l, f, f.At)
			}
			of := func(x typ.Type, s string) int {
				if s == "" {
					return 0
				}
				d, f := load.One(s)
				if f.Bad() {
					t.Fatalf("%q: %v at %d", s, f, f.At)
				}
				v, f := value.Parse(p.Env.Defs.Types, x, d.Graph)
				if f.Bad() {
					t.Fatalf("%q isn't of %s: %v at %d", s, typ.Show(x), f, f.At)
				}
				if len(v.Leaves()) > 0 {
					leaves++
				}
				return 1
			}
			views += of(p.Plan.View, view)
			sources += of(p.Plan.Source, source)
		}
	}
	if views < 200 || sources < 200 || leaves < 100 {
		t.Error(views, sources, leaves)
	}
}

// What falls is the same by one number, and other by another.
func TestSeed(t *testing.T) {
	texts := func(seed int64) [3]string {
		m := falling(seed)
		m.Define(4)
		l, view, source := m.Texts()
		return [3]string{l, view, source}
	}
	if texts(3) != texts(3) || texts(3) == texts(4) {
		t.Error(texts(3), texts(4))
	}
}

// What is garbled is the text itself, or another one.
func TestGarbled(t *testing.T) {
	m := falling(2)
	same := 0
	for range 300 {
		if m.Garbled("a: [x, 'y']\n") == "a: [x, 'y']\n" {
			same++
		}
		m.Garbled("")
	}
	if same < 30 || same > 250 {
		t.Error(same)
	}
}
