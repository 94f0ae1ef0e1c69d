package trial

import (
	"slices"
	"strconv"

	"stanhope/api"
	"stanhope/carve"
	"stanhope/check"
	"stanhope/grind"
	"stanhope/lens"
	"stanhope/spell"
	"stanhope/typ"
	"stanhope/value"
)

// Deep holds that values and plans of any depth are gone through.
func (w Way) Deep(t T) {
	t.Helper()
	const n, m = 1 << 18, 1 << 12
	e := Env()
	rows := func(s string) value.Value {
		return carve.Nested(n, carve.Value(s), func(v value.Value) value.Value { return carve.Seq(v) })
	}
	w.Pair(t, e, grind.Plan(e.Defs, "{use: grow}", "$t"), rows("x"), rows("{k: x}"))
	entries := func(s string) value.Value {
		return carve.Nested(n, carve.Map("n", carve.Str(s)), func(v value.Value) value.Value { return carve.Map("n s", carve.Str(s), carve.Seq(v)) })
	}
	w.Pair(t, e, grind.Plan(e.Defs, "{use: deep}", "$g"), entries("y"), entries("x"))
	for _, word := range grind.Arounds() {
		l, s, source := grind.Nest(word, m, grind.Lens("{plunge: p}"), spell.Type("str"), carve.Str("x"))
		_, _, view := grind.Nest(word, m, l, s, carve.Value("{p: x}"))
		w.Pair(t, e, grind.Made(e.Defs, l, s), source, view)
	}
}

// Long holds that Composes of many Kids are gone through.
func (w Way) Long(t T) {
	t.Helper()
	in, out := grind.Lens("{plunge: k}"), grind.Lens("{hoist: k}")
	chain := func(n int) []lens.Lens {
		return slices.Concat(slices.Repeat([]lens.Lens{in}, n), slices.Repeat([]lens.Lens{out}, n))
	}
	x := carve.Str("x")
	most := lens.Lens{Kind: lens.Compose, Kids: slices.Concat(chain(4095), chain(9), chain(4095))}
	w.Pair(t, check.Env{}, grind.Made(lens.Defs{}, most, spell.Type("str")), x, x)
	more := lens.Lens{Kind: lens.Compose, Kids: slices.Concat(chain(9), chain(4096), chain(9))}
	w.Wrong(t, check.Env{}, grind.Made(lens.Defs{}, more, spell.Type("str")), x, api.ErrNodes)
}

// Wide holds that wide values and plans are gone through.
func (w Way) Wide(t T) {
	t.Helper()
	const n = 1 << 16
	e := Env()
	source, view, half := carve.Map(""), carve.Map(""), carve.Map("")
	r := typ.Type{Kind: typ.Record, Tag: "map"}
	on := lens.Lens{Kind: lens.On}
	for i := range n {
		key := "k" + strconv.Itoa(1<<20+i)
		out, in := carve.Leaf(i), carve.Keyed("b", carve.Keyed("a", carve.Leaf(i)))
		source.Keys, source.Kids = append(source.Keys, key), append(source.Kids, out)
		view.Keys, view.Kids = source.Keys, append(view.Kids, in)
		r.Fields = append(r.Fields, typ.Field{Key: key, Type: typ.Type{Kind: typ.Any}})
		if i%2 == 0 {
			on.Keys, on.Kids = append(on.Keys, key), append(on.Kids, grind.Lens("{use: twice}"))
			out = in
		}
		half.Keys, half.Kids = source.Keys, append(half.Kids, out)
	}
	w.Pair(t, e, grind.Plan(e.Defs, "{map: {use: twice}}", "{map *:any}"), source, view)
	w.Pair(t, e, grind.Plan(e.Defs, "{items: {use: twice}}", "[seq any]"), carve.Seq(source.Kids...), carve.Seq(view.Kids...))
	w.Pair(t, e, grind.Made(e.Defs, on, r), source, half)
	w.Pair(t, e, grind.Made(e.Defs, lens.Lens{Kind: lens.Project, Keys: source.Keys}, r), source, source)
	w.Pair(t, e, grind.Made(e.Defs, lens.Lens{Kind: lens.Sink, Name: "s", Keys: source.Keys}, r), source, carve.Map("s", source))
	behind := spell.Type("{map s:any}")
	behind.Fields[0].Type = r
	w.Pair(t, e, grind.Made(e.Defs, grind.Lens("{lift: s}"), behind), carve.Map("s", source), source)
	w.Pair(t, e, grind.Plan(e.Defs, "{filter: [.int]}", "[seq (str|int)]"), Repeated(n, carve.Scalar("int", "1")), Repeated(n, carve.Scalar("int", "1")))
	w.Pair(t, e, grind.Plan(e.Defs, "{items: {union: [{plunge: k}, id]}}", "[seq (str|int)]"), Repeated(n, carve.Str("x")), Repeated(n, carve.Keyed("k", carve.Str("x"))))
}
