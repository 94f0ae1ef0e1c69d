package align_test

import (
	"reflect"
	"slices"
	"testing"

	"stanhope/align"
	"stanhope/api"
	"stanhope/carve"
	"stanhope/graph"
	"stanhope/sketch"
	"stanhope/spell"
	"stanhope/typ"
	"stanhope/value"
)

// kept is a pool anew, with the room behind the ends of its lists.
func kept(p align.Pool) align.Pool {
	return align.Pool{Nodes: sketch.Whole(sketch.Of(0, p.Nodes...)).Nodes, To: slices.Clone(p.To[:cap(p.To)])}
}

// equal says whether two pools are alike, as they stand.
func equal(p, q align.Pool) bool {
	return sketch.Equal(sketch.Of(0, p.Nodes...), sketch.Of(0, q.Nodes...)) && slices.Equal(p.To, q.To)
}

// R3, R5: definitions, a type and values stay as they are; what is told is the same each time, and its own.
func TestPairsHandedIn(t *testing.T) {
	d := spell.Defs("k=[seq by k {map k:str v:any}] u=([!a any]|$k|{map *:any})")
	d.Names = spell.Room(d.Names, "behind")
	for i, x := range d.Types {
		d.Types[i] = spell.Roomy(x)
	}
	x := spell.Roomy(spell.Type("{map a:$k b:[seq any] *:$u}"))
	v := carve.Roomy(leaves("{a: [{k: x, v: ^1}, {k: y, v: ^2}], b: [^3, ^4], c: {a: ^5, b: ^6}, d: !a [^7]}"))
	w := carve.Roomy(leaves("{a: [{k: y, v: ^1}, {k: x, v: ^2}], b: [^3], c: {b: ^6, c: ^5}, d: !a [^8]}"))
	want := list("2:1 1:2 3:3 6:6 7:8")
	names, of := slices.Clone(d.Names), []typ.Type{spell.Whole(x), spell.Whole(d.Types[0]), spell.Whole(d.Types[1])}
	was, now := carve.Whole(v), carve.Whole(w)
	for range 20 {
		l := align.Pairs(d, x, v, w)
		if !slices.Equal(l, want) {
			t.Fatal(l)
		}
		for i := range l[:cap(l)] {
			l[:cap(l)][i] = [2]int{77, 77}
		}
	}
	if !carve.Equal(carve.Whole(v), was) || !carve.Equal(carve.Whole(w), now) {
		t.Errorf("%+v, %+v", v, w)
	}
	if !slices.Equal(d.Names, names) || !reflect.DeepEqual([]typ.Type{spell.Whole(x), spell.Whole(d.Types[0]), spell.Whole(d.Types[1])}, of) {
		t.Errorf("%+v, %+v", d, x)
	}
}

// R3, R5: graphs and pairs stay as they are, whatever is written into the pool, which is the same each time.
func TestMakeHandedIn(t *testing.T) {
	a, b := sketch.Roomy(), sketch.Roomy()
	b.Nodes[0].Keys[0] = "c"
	l := spell.Room(list("0:0 1:1 3:2"), [2]int{3, 3})
	was, now := sketch.Whole(a), sketch.Whole(b)
	want := align.Pool{Nodes: []graph.Node{entries("c a", 2, 1), seq(0, 2), str("x"), str("y"), entries("b a", 6, 5), seq(4, 6), str("x"), str("y")}, To: []int{4, 5, 6, 7}}
	for range 20 {
		p := made(t, a, b, l)
		if !equal(p, want) {
			t.Fatal(p)
		}
		sketch.ScribbleAll(sketch.Of(0, p.Nodes...))
		for i := range p.To {
			p.To[i] = 77
		}
	}
	if !sketch.Equal(sketch.Whole(a), was) || !sketch.Equal(sketch.Whole(b), now) || !slices.Equal(l[:cap(l)][:4], list("0:0 1:1 3:2 3:3")) {
		t.Errorf("%v, %v, %v", a, b, l)
	}
	// Nor is what was handed in kept.
	p := made(t, a, b, l)
	sketch.ScribbleAll(a)
	sketch.ScribbleAll(b)
	l[0] = [2]int{3, 3}
	if !equal(p, want) {
		t.Error(p)
	}
}

// R3: no two lists of a pool, or of what is taken of it, share anything.
func TestApart(t *testing.T) {
	n := sketch.Roomy().Nodes
	g := sketch.Of(0, n[0], n[0], n[1], n[1], str("x"))
	p := made(t, g, g, nil)
	_, taken, e := p.Take(carve.Seq(carve.Leaf(0), carve.Leaf(1), carve.Leaf(3)))
	if e != api.OK {
		t.Fatal(e)
	}
	for _, nodes := range [][]graph.Node{p.Nodes, taken.Nodes} {
		want := sketch.Whole(sketch.Of(0, nodes...))
		for i, n := range nodes {
			sketch.Scribble(n)
			nodes[i], want.Nodes[i] = graph.Node{}, graph.Node{}
			if now := sketch.Whole(sketch.Of(0, nodes...)); !sketch.Equal(now, want) {
				t.Fatalf("with node %d is written into %v, not %v", i, now, want)
			}
		}
	}
}

// R3, R5: a pool and a value stay as they are, whatever is written into what is taken; that is the same each time.
func TestTakeHandedIn(t *testing.T) {
	a := sketch.Roomy()
	p := made(t, a, sketch.Of(0, entries("z y x", 1, 2, 1), seq(0, 2), str("x")), list("2:2"))
	v := carve.Roomy(leaves("{a: [x, ^0, ^9], b: {a: ^1, b: ^2}, c: ^3}"))
	w := carve.Roomy(leaves("{a: [x, ^0, ^5], b: {a: ^1, b: ^2}, c: ^3}"))
	was, now, before := carve.Whole(v), carve.Whole(w), kept(p)
	for range 20 {
		m := p.Move(v)
		if !carve.Equal(m, leaves("{a: [x, ^3, ^9], b: {a: ^4, b: ^2}, c: ^5}")) {
			t.Fatalf("%+v", m)
		}
		for i := range m.Kids {
			m.Kids[i].Kids = nil
			m.Kids[i] = value.Value{}
		}
		x, g, n := p.Take(w)
		if n != api.OK || !carve.Equal(x, leaves("{a: [x, ^0, ^3], b: {a: ^1, b: ^2}, c: ^4}")) || !sketch.Equal(g, sketch.Of(0, entries("x y z", 1, 2, 1), seq(0, 2), str("x"), str("y"), entries("a b", 5, 2), seq(4, 2))) {
			t.Fatalf("%+v, %v, %v", x, g, n)
		}
		for i := range x.Kids {
			x.Kids[i] = value.Value{}
		}
		sketch.ScribbleAll(g)
	}
	if !carve.Equal(carve.Whole(v), was) || !carve.Equal(carve.Whole(w), now) || !equal(kept(p), before) {
		t.Errorf("%+v, %+v, %v", v, w, p)
	}
}

// R4: nil and empty lists are one.
func TestEmpty(t *testing.T) {
	none, empty := value.Value{Kind: value.Map, Tag: "map"}, value.Value{Kind: value.Map, Tag: "map", Keys: []string{}, Kids: []value.Value{}}
	d := typ.Defs{Names: []string{}, Types: []typ.Type{}}
	x := typ.Type{Kind: typ.Record, Tag: "map", Words: []string{}, Fields: []typ.Field{}, Items: []typ.Type{}}
	bare := sketch.Of(0, graph.Node{Kind: graph.Seq, Tag: "seq", Keys: []string{}, Kids: []int{}})
	for _, v := range []value.Value{none, empty} {
		for _, w := range []value.Value{none, empty} {
			if l := align.Pairs(d, x, v, w); len(l) != 0 {
				t.Error(l)
			}
		}
		p := made(t, bare, sketch.Of(0, seq()), [][2]int{})
		q := made(t, sketch.Of(0, seq()), bare, nil)
		if !equal(p, q) || !carve.Equal(p.Move(v), none) {
			t.Error(p, q)
		}
		if y, g, n := p.Take(v); n != api.OK || !carve.Equal(y, none) || len(g.Nodes) != 0 {
			t.Error(y, g, n)
		}
	}
}
