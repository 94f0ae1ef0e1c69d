package schema_test

import (
	"reflect"
	"slices"
	"testing"

	"stanhope/api"
	"stanhope/graph"
	"stanhope/load"
	"stanhope/schema"
	"stanhope/sketch"
	"stanhope/spell"
	"stanhope/typ"
)

// text is a document of types of all kinds.
const text = "b: {record: {b?: &x {enum: [b, a, b]}, a: *x}, rest: {list: any}}\na: {union: [dag, {keyed: t, by: k}]}\n"

// roomy is that document, all lists of which have room behind their ends.
func roomy(t *testing.T) load.Doc {
	d := doc(t, text)
	for i, x := range d.Nodes {
		d.Nodes[i].Keys, d.Nodes[i].Kids = spell.Room(x.Keys, "behind"), spell.Room(x.Kids, 0)
	}
	d.Nodes, d.At = spell.Room(d.Nodes, sketch.Str("behind")), spell.Room(d.At, 99)
	return d
}

// R3: a document that is handed in stays as it is, with the room behind its ends, whatever is written into what is handed out.
func TestHandedIn(t *testing.T) {
	d := roomy(t)
	was, at := sketch.Whole(d.Graph), slices.Clone(d.At[:cap(d.At)])
	for range 10 {
		r := schema.New(d)
		for n := range d.Nodes {
			r.Part(n)
			schema.Text(d.Nodes[n])
			if x, f := r.Type(n); !f.Bad() {
				scribble(x)
			}
			if x, f := r.Defs(n); !f.Bad() {
				names := x.Names[:cap(x.Names)]
				for i := range names {
					names[i] = "written"
				}
				for _, x := range x.Types[:cap(x.Types)] {
					scribble(x)
				}
			}
		}
	}
	if now := sketch.Whole(d.Graph); !sketch.Equal(now, was) || !slices.Equal(d.At[:cap(d.At)], at) {
		t.Errorf("%v, not %v", now, was)
	}
}

// scribble writes into all lists of a type.
func scribble(x typ.Type) {
	words, fields, items := x.Words[:cap(x.Words)], x.Fields[:cap(x.Fields)], x.Items[:cap(x.Items)]
	for i := range words {
		words[i] = "written"
	}
	for i := range fields {
		scribble(fields[i].Type)
		fields[i] = typ.Field{Key: "written"}
	}
	for i := range items {
		scribble(items[i])
		items[i] = typ.Type{}
	}
}

// R3, R5: what is written into a document later, or into what was handed out, is of no account to a reader.
func TestKept(t *testing.T) {
	d := roomy(t)
	r := schema.New(d)
	want := "a=(dag|[seq by k $t])@69 b={map a:<str \"a\" \"b\"> b?:<str \"a\" \"b\"> *:[seq any]}@3 "
	if got := defs(r, 0); got != want {
		t.Error(got)
	}
	sketch.ScribbleAll(d.Graph)
	for i := range d.At {
		d.At[i] = 77
	}
	for range 3 {
		x, _ := r.Defs(0)
		for _, y := range x.Types {
			scribble(y)
		}
		if got := defs(r, 0); got != want {
			t.Error(got)
		}
	}
}

// R3: two types of one node are apart.
func TestApart(t *testing.T) {
	d := doc(t, "{union: [&x {enum: [a]}, *x, &y {record: {a: *x}}, *y]}")
	x, f := schema.New(d).Type(0)
	if f.Bad() {
		t.Fatal(f)
	}
	scribble(x.Items[0])
	scribble(x.Items[2])
	if !reflect.DeepEqual(x.Items[1].Words, []string{"a"}) || typ.Show(x.Items[3]) != `{map a:<str "a">}` {
		t.Errorf("%+v", x)
	}
}

// R1, R6: documents of another make are told of, too, and all ends.
func TestOdd(t *testing.T) {
	key := func(keys string, kids ...int) graph.Node { return sketch.Map(keys, kids...) }
	for i, g := range append(sketch.MayNot(),
		sketch.Of(0, key("list", 5)), sketch.Of(0, key("list", -1)), sketch.Of(0, key("list"), sketch.Str("t")), sketch.Of(0, key("list tag", 1), sketch.Str("t")),
		sketch.Of(0, key("list", 1, 1), sketch.Str("t")), sketch.Of(0, key("list list", 1, 1), sketch.Str("t")), sketch.Of(0, key("union", 7)), sketch.Of(0, key("enum", 1), sketch.Seq(9)),
		sketch.Of(0, key("enum", 1), sketch.Seq(-9)), sketch.Of(0, key("record", 1), key("a b", 7)), sketch.Of(0, key("record", 1), key("a b", 7, 8)), sketch.Of(0, key("record rest", 1, -4), key("")),
		sketch.Of(0, key("union", 1), sketch.Seq(2, 99, -99)), sketch.Of(0, key("keyed by", 1, 9), sketch.Str("x")), sketch.Of(0, key("list tag", 1, 1), sketch.Scalar("int", "\xff")),
		sketch.Of(0, graph.Node{Kind: 7, Tag: "str", Text: "str"}), sketch.Of(0, graph.Node{Kind: graph.Scalar, Tag: "str", Text: "str", Keys: []string{"a"}, Kids: []int{9}}),
	) {
		for _, at := range [][]int{nil, {5}, {5, 6, 7, 8, 9, 10, 11}} {
			r := schema.New(load.Doc{Graph: g, At: at})
			for _, n := range append(sketch.Odd(), 0, 1, 2, 3) {
				x, f := r.Type(n)
				d, e := r.Defs(n)
				if f.Bad() && x.Kind != 0 || e.Bad() && len(d.Names)+len(d.Types) > 0 {
					t.Errorf("%d, %d: %+v beside %v, %+v beside %v", i, n, x, f, d, e)
				}
				r.Part(n)
			}
		}
	}
	var r schema.Reader
	if x, f := r.Type(0); f != (api.Fault{Errno: api.ErrForm}) || x.Kind != 0 {
		t.Error(x, f)
	}
	// Without places, all stand at 0.
	if x, f := schema.New(load.Doc{Graph: sketch.Of(0, key("list", 1), sketch.Str("t"))}).Type(0); f.Bad() || typ.Show(x) != "[seq $t]" {
		t.Error(x, f)
	}
}
