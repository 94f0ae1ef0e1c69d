package trial

import (
	"slices"

	"stanhope/api"
	"stanhope/carve"
	"stanhope/check"
	"stanhope/grind"
	"stanhope/spell"
	"stanhope/value"
)

// Rows are texts, each of a type of sources, a lens with the definitions of Program, what its plan is handed, and what comes of that.
type Rows []struct{ Source, Lens, From, To string }

// Hold holds what is made, with what plays no part, too.
func (l Rows) Hold(t T, w Way) {
	t.Helper()
	e, noisy := Env(), Noisy()
	for _, r := range l {
		p := grind.Plan(e.Defs, r.Lens, r.Source)
		v, want := carve.Value(r.From), carve.Value(r.To)
		if got := w.Made(t, e, p, v); !carve.Equal(got, want) {
			t.Errorf("%+v: %+v", r, got)
		}
		q := grind.Made(noisy.Defs, grind.Noisy(p.Lens), spell.Noisy(p.Source))
		got := w.Made(t, noisy, q, carve.Noisy(v))
		// What a lens makes itself has nothing where nothing plays a part.
		if !value.Same(got, want) || !slices.Contains(w.Passes, p.Lens.Kind) && !Clean(got) {
			t.Errorf("%+v, with what plays no part: %+v", r, got)
		}
	}
}

// Bads are texts, each of a type of sources, a lens with the definitions of Program, and values that its plan isn't to be handed.
type Bads []struct {
	Source, Lens string
	Values       []string
}

// Hold holds that each is told by ErrType, and each value that may not be, too.
func (l Bads) Hold(t T, w Way) {
	t.Helper()
	e := Env()
	for _, b := range l {
		p := grind.Plan(e.Defs, b.Lens, b.Source)
		for _, s := range b.Values {
			w.Wrong(t, e, p, carve.Value(s), api.ErrType)
			w.Wrong(t, e, p, carve.Noisy(carve.Value(s)), api.ErrType)
		}
		for _, v := range carve.Odd() {
			w.Wrong(t, e, p, v, api.ErrType)
		}
	}
	// No plan, to which nothing may be handed.
	for _, v := range append(carve.Odd(), carve.Str("x"), carve.Seq(), carve.Map(""), carve.Leaf(0)) {
		w.Wrong(t, e, check.Plan{}, v, api.ErrType)
		w.Wrong(t, check.Env{}, check.Plan{}, v, api.ErrType)
	}
}

// Counts are texts, each of a type of sources and a lens with the definitions of Program, with
// what makes a value of so many nodes, or more, for its plan, and the most nodes that may be
// asked for; 0, if there may be any number.
type Counts []struct {
	Source, Lens string
	Of           func(n int) value.Value
	Most         int
}

// Hold holds that so many nodes may be, and more are told by ErrNodes.
func (l Counts) Hold(t T, w Way) {
	t.Helper()
	e := Env()
	for _, c := range l {
		p := grind.Plan(e.Defs, c.Lens, c.Source)
		if c.Most == 0 {
			for _, n := range [...]int{4096, 4097, 20000} {
				w.Made(t, e, p, c.Of(n))
			}
			continue
		}
		if n := c.Of(c.Most).Size(); n < c.Most {
			t.Fatalf("%s: %d nodes", c.Lens, n)
		}
		w.Made(t, e, p, c.Of(c.Most))
		for _, n := range [...]int{1, 2, 5000} {
			v := c.Of(c.Most + n)
			w.Wrong(t, e, p, v, api.ErrNodes)
			if x, n := w.Bare(e, p, v); n != api.ErrNodes || !carve.Equal(x, value.Value{}) {
				t.Errorf("%s: %v, %+v", c.Lens, n, x)
			}
		}
	}
}

// Repeated is a sequence of so many of a value.
func Repeated(n int, v value.Value) value.Value {
	return carve.Seq(slices.Repeat([]value.Value{v}, n)...)
}

// Scalars is a sequence that has so many nodes.
func Scalars(n int) value.Value { return Repeated(n-1, carve.Str("x")) }

// Lists is a sequence of several that each have so many nodes.
func Lists(nodes ...int) value.Value {
	v := carve.Seq()
	for _, n := range nodes {
		v.Kids = append(v.Kids, Scalars(n))
	}
	return v
}

// Leaves is a sequence that has so many nodes, all but its own leaves.
func Leaves(n int) value.Value { return Repeated(n-1, carve.Leaf(3)) }

// Behind is a mapping that has so many nodes, of Scalars behind the key a.
func Behind(n int) value.Value { return carve.Map("a", Scalars(n-1)) }
