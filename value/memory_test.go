package value_test

import (
	"reflect"
	"slices"
	"testing"

	"stanhope/api"
	"stanhope/carve"
	"stanhope/graph"
	"stanhope/sketch"
	"stanhope/spell"
	"stanhope/typ"
	"stanhope/value"
)

// written is a value of which the leaves are nodes of sketch.Roomy.
func written() value.Value { return carve.Roomy(of("{a: [x, !leaf 1], b: {c: !leaf 0, d: y}}")) }

// R3: values that are handed in stay as they are, with the room behind their ends, whatever is written into what is handed out.
func TestValueHandedIn(t *testing.T) {
	v, w := written(), written()
	was := carve.Whole(v)
	pool := sketch.Roomy()
	pooled := sketch.Whole(pool)
	x := spell.Roomy(spell.Type("{map a:[seq (str|any)] b:{map *:any}}"))
	before := spell.Whole(x)
	for range 20 {
		v.Get("a")
		v.Head()
		v.Size()
		v.May()
		value.Same(v, w)
		value.Of(typ.Defs{}, x, v)
		for l := v.Leaves(); len(l) > 0; l = l[1:] {
			l[0] = 77
		}
		g, f := value.Weave(v, pool)
		if f.Bad() || len(g.Nodes) != 8 {
			t.Fatal(g, f)
		}
		sketch.ScribbleAll(g)
	}
	if now := carve.Whole(v); !carve.Equal(now, was) {
		t.Errorf("%+v, not %+v", now, was)
	}
	if now := sketch.Whole(pool); !sketch.Equal(now, pooled) {
		t.Errorf("%v, not %v", now, pooled)
	}
	if now := spell.Whole(x); !reflect.DeepEqual(now, before) {
		t.Errorf("%+v, not %+v", now, before)
	}
}

// R3, R5: graphs, types and definitions that are handed in stay as they are; what is told is the same each time.
func TestGraphHandedIn(t *testing.T) {
	d := spell.Defs("a=(str|[seq $a]|{map *:$b}) b=any")
	d.Names = spell.Room(d.Names, "behind")
	for i, x := range d.Types {
		d.Types[i] = spell.Roomy(x)
	}
	d.Types = spell.Room(d.Types, spell.Type("str"))
	names, types := slices.Clone(d.Names[:3]), []typ.Type{spell.Whole(d.Types[0]), spell.Whole(d.Types[1]), spell.Whole(d.Types[:3][2])}
	x := spell.Roomy(spell.Type("{map a:any b:$b}"))
	before := spell.Whole(x)
	g := sketch.Roomy()
	was := sketch.Whole(g)
	want := of("{a: !leaf 1, b: !leaf 2}")
	g.Nodes[1].Kids[0], was.Nodes[1].Kids[0] = 3, 3
	for range 20 {
		v, f := value.Parse(d, x, g)
		if f.Bad() || !carve.Equal(v, want) || !value.Of(d, x, v) {
			t.Fatal(v, f, f.At)
		}
		value.Parse(d, spell.Type("$a"), g)
	}
	if now := sketch.Whole(g); !sketch.Equal(now, was) {
		t.Errorf("%v, not %v", now, was)
	}
	if now := spell.Whole(x); !reflect.DeepEqual(now, before) {
		t.Errorf("%+v, not %+v", now, before)
	}
	if !slices.Equal(d.Names[:3], names) {
		t.Error(d.Names[:3])
	}
	for i, x := range d.Types[:3] {
		if !reflect.DeepEqual(spell.Whole(x), types[i]) {
			t.Errorf("%+v, not %+v", x, types[i])
		}
	}
}

// R3: what is handed out shares nothing: neither with what is handed in, nor, of a graph, one list with another.
func TestHandedOut(t *testing.T) {
	v, pool := written(), sketch.Roomy()
	g, f := value.Weave(v, pool)
	want := sketch.Whole(g)
	if f.Bad() {
		t.Fatal(g, f)
	}
	for i, n := range g.Nodes {
		sketch.Scribble(n)
		g.Nodes[i], want.Nodes[i] = graph.Node{}, graph.Node{}
		if now := sketch.Whole(g); !sketch.Equal(now, want) {
			t.Fatalf("with node %d is written into %v, not %v", i, now, want)
		}
	}
	if again, f := value.Weave(v, pool); f.Bad() || len(again.Nodes) != 8 {
		t.Fatal(again, f)
	}
	v.Leaves()[0] = 77
	if !slices.Equal(v.Leaves(), []int{1, 0}) {
		t.Error(v.Leaves())
	}
	h := sketch.Of(0, sketch.Map("a b", 1, 2), sketch.Str("x"), sketch.Seq(1))
	u, f := value.Parse(typ.Defs{}, spell.Type("{map a:any b:any}"), h)
	sketch.ScribbleAll(h)
	if f.Bad() || !carve.Equal(u, of("{a: !leaf 1, b: !leaf 2}")) {
		t.Error(u, f, f.At)
	}
}

// R4: nil and empty lists are one.
func TestEmpty(t *testing.T) {
	for _, s := range []string{"x", "[]", "{}", "!leaf 0"} {
		v := of(s)
		w := v
		w.Keys, w.Kids = []string{}, []value.Value{}
		x := right(t, typ.Defs{}, map[string]string{"x": "str", "[]": "[seq str]", "{}": "{map}", "!leaf 0": "any"}[s])
		if !w.May() || !value.Same(v, w) || w.Size() != 1 || len(w.Leaves()) != len(v.Leaves()) || !value.Of(typ.Defs{}, x, w) {
			t.Errorf("%+v", w)
		}
		pool := sketch.Of(0, graph.Node{Kind: graph.Seq, Tag: "seq", Keys: []string{}, Kids: []int{}})
		if f := pool.Check(); f.Bad() {
			t.Fatal(f)
		}
		g, f := value.Weave(w, pool)
		h, _ := value.Weave(v, sketch.Of(0, sketch.Seq()))
		if f.Bad() || !sketch.Equal(g, h) {
			t.Errorf("%s: %v, %v", s, g, h)
		}
	}
}

// R1: values of any depth are gone through.
func TestDeep(t *testing.T) {
	const n = 1 << 18
	d := spell.Defs("a=([seq $a]|{map a?:$a b:$b}|<str \"x\">|{!a}) b=any")
	x := right(t, d, "$a")
	for i, around := range []func(value.Value) value.Value{
		func(v value.Value) value.Value { return carve.Seq(v) },
		func(v value.Value) value.Value { return carve.Map("a b", v, leaf(3)) },
	} {
		v, w, u := carve.Nested(n, of("x"), around), carve.Nested(n, of("y"), around), carve.Nested(n, value.Value{}, around)
		if v.Size() != n+1+i*n || len(v.Leaves()) != i*n || !v.May() || u.May() {
			t.Error(i, v.Size(), v.May(), u.May())
		}
		if !value.Same(v, v) || value.Same(v, w) || value.Same(w, v) || value.Same(v, v.Kids[0]) {
			t.Error(i, "same")
		}
		if !value.Of(d, x, v) || value.Of(d, x, w) || value.Of(d, x, u) {
			t.Error(i, "of")
		}
		if _, f := value.Weave(v, pooled()); f != (api.Fault{Errno: api.ErrNodes, At: 4096}) {
			t.Error(i, f, f.At)
		}
		if _, f := value.Weave(u, pooled()); f != (api.Fault{Errno: api.ErrShape}) {
			t.Error(i, f, f.At)
		}
	}
}

// R1: so are wide ones, and items of many kinds.
func TestWide(t *testing.T) {
	var items, keyed []value.Value
	u := typ.Type{Kind: typ.Union}
	for i := range 390 {
		tag := "!" + string(rune('a'+i/20)) + string(rune('a'+i%20))
		u.Items = append(u.Items, typ.Type{Kind: typ.Scalar, Tag: tag})
		for range 10 {
			items = append(items, carve.Scalar(tag, "x"))
			keyed = append(keyed, carve.Map("k v", carve.Scalar("int", "1"), carve.Str("x")))
		}
	}
	x := typ.Type{Kind: typ.List, Tag: "seq", Items: []typ.Type{u}}
	if f := typ.Check(typ.Defs{}, x); f.Bad() {
		t.Fatal(f)
	}
	v := carve.Seq(items...)
	g, f := value.Weave(v, graph.Graph{})
	w, e := value.Parse(typ.Defs{}, x, g)
	if f.Bad() || e.Bad() || !value.Same(v, w) || !value.Of(typ.Defs{}, x, v) {
		t.Error(f, e)
	}
	k := right(t, typ.Defs{}, "[seq by k {map k:int v:str}]")
	for i := range keyed {
		keyed[i].Kids[0] = carve.Scalar("int", "1"+string(rune('0'+i/1000))+string(rune('0'+i/100%10))+string(rune('0'+i/10%10))+string(rune('0'+i%10)))
	}
	if !value.Of(typ.Defs{}, k, carve.Seq(keyed...)) {
		t.Error("keyed")
	}
	keyed[3899].Kids[0] = keyed[0].Kids[0]
	if value.Of(typ.Defs{}, k, carve.Seq(keyed...)) {
		t.Error("keyed twice")
	}
}
