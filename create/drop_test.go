package create_test

import (
	"math/rand"
	"testing"

	"stanhope/brew"
	"stanhope/carve"
	"stanhope/create"
	"stanhope/grind"
	"stanhope/lens"
	"stanhope/spell"
	"stanhope/value"
)

// P21.2: a mapping without the entry that a Fill would give it.
func TestDrop(t *testing.T) {
	for _, c := range []struct {
		key, literal, w, want string // empty, if nothing is dropped
	}{
		{"a", "x", "{a: x}", "{}"},
		{"a", "x", "{a: x, b: x}", "{b: x}"},
		{"b", "x", "{a: x, b: x}", "{a: x}"},
		{"b", "0", "!m {a: x, b: 0, c: !leaf 1}", "!m {a: x, c: !leaf 1}"},
		{"", "~", "{'': ~, a: ~}", "{a: ~}"},
		{"a", "!a ''", "{a: !a ''}", "{}"},
		{"é", "true", "{a: 1, é: true}", "{a: 1}"},
		// Another scalar, or none.
		{"a", "x", "{a: y}", ""},
		{"a", "x", "{a: 'x '}", ""},
		{"a", "''", "{a: ~}", ""},
		{"a", "~", "{a: ''}", ""},
		{"a", "1", "{a: '1'}", ""},
		{"a", "'1'", "{a: 1}", ""},
		{"a", "!a x", "{a: x}", ""},
		{"a", "!a x", "{a: !b x}", ""},
		{"a", "x", "{a: !leaf 0}", ""},
		{"a", "x", "{a: [x]}", ""},
		{"a", "x", "{a: {a: x}}", ""},
		// Nothing is there, or no mapping.
		{"a", "x", "{}", ""},
		{"a", "x", "{b: x}", ""},
		{"a", "x", "{A: x, aa: x}", ""},
		{"", "x", "{a: x}", ""},
		{"a", "x", "[x]", ""},
		{"a", "x", "x", ""},
		{"a", "x", "!leaf 3", ""},
	} {
		l := lens.Lens{Kind: lens.Fill, Name: c.key, Values: []value.Value{of(c.literal)}}
		want := of(c.w)
		if c.want != "" {
			want = of(c.want)
		}
		got, ok := create.Drop(l, of(c.w))
		if ok != (c.want != "") || !carve.Equal(got, want) {
			t.Errorf("%q, %s of %s: %v, %+v", c.key, c.literal, c.w, ok, got)
		}
		n, ok := create.Drop(grind.Noisy(l), carve.Noisy(of(c.w)))
		if ok != (c.want != "") || !value.Same(n, want) || ok && (n.Text != "" || n.Node != 0) {
			t.Errorf("%q, %s of %s, with what plays no part: %v, %+v", c.key, c.literal, c.w, ok, n)
		}
	}
}

// P21.2: what is no Fill, or one without a literal, drops nothing, and w is handed on as it is, whatever it is.
func TestDropNone(t *testing.T) {
	all := append(carve.Odd(), of("{a: x}"), of("{a: x, b: y}"), of("[]"), of("x"), carve.Leaf(-1))
	for _, w := range all {
		for k := lens.Kind(-1); k <= 20; k++ {
			l := lens.Lens{Kind: k, Name: "a", Keys: []string{"a"}, Values: []value.Value{of("x"), of("x")}}
			if k == lens.Fill {
				l.Values = nil
			}
			if got, ok := create.Drop(l, w); ok || !carve.Equal(got, w) {
				t.Errorf("%d of %+v: %v, %+v", k, w, ok, got)
			}
		}
		for _, x := range all {
			l := lens.Lens{Kind: lens.Fill, Name: "a", Values: []value.Value{x}}
			_, there := w.Get("a")
			if got, ok := create.Drop(l, w); !ok && !carve.Equal(got, w) || ok && !there {
				t.Errorf("%+v of %+v: %v, %+v", x, w, ok, got)
			}
		}
	}
	if got, ok := create.Drop(lens.Lens{}, value.Value{}); ok || !carve.Equal(got, value.Value{}) {
		t.Errorf("%v, %+v", ok, got)
	}
}

// P21.2: what a Fill drops of mappings as they fall.
func TestMadeDrops(t *testing.T) {
	m := &brew.Maker{Pick: rand.New(rand.NewSource(215)).Intn}
	dropped := 0
	for range 20000 {
		w := m.Value(spell.Type("{map a?:(str|int|null|!a|[seq str]) b?:str *:(str|int)}"), 2)
		l := lens.Lens{Kind: lens.Fill, Name: []string{"a", "b", "k"}[m.Pick(3)]}
		l.Values = []value.Value{m.Value(spell.Type("(str|int|null|!a)"), 1)}
		got, ok := create.Drop(l, w)
		x, there := w.Get(l.Name)
		want := w
		if there && value.Same(x, l.Values[0]) {
			e := carve.Entries(w)
			delete(e, l.Name)
			want = carve.Laid(w.Tag, e)
			dropped++
		}
		if ok != (there && value.Same(x, l.Values[0])) || !carve.Equal(got, want) {
			t.Fatalf("%+v of %+v: %v, %+v", l, w, ok, got)
		}
	}
	if dropped < 300 || dropped > 15000 {
		t.Error(dropped)
	}
}
