package plain_test

import (
	"math"
	"reflect"
	"slices"
	"testing"

	"stanhope/graph"
	"stanhope/load"
	"stanhope/plain"
	"stanhope/sketch"
)

// doc is a document of nodes, which stand at 10, 11 and so on.
func doc(nodes ...graph.Node) load.Doc {
	d := load.Doc{Graph: sketch.Of(0, nodes...)}
	for i := range nodes {
		d.At = append(d.At, 10+i)
	}
	return d
}

func TestNode(t *testing.T) {
	d := doc(sketch.Str("x"), sketch.Str("y"))
	for n, s := range []string{"x", "y"} {
		if x, ok := plain.Node(d, n); !ok || x.Text != s || plain.At(d, n) != 10+n {
			t.Error(n, x, ok)
		}
	}
	for _, n := range append(sketch.Odd(), 2) {
		if x, ok := plain.Node(d, n); ok || !reflect.DeepEqual(x, graph.Node{}) || plain.At(d, n) != 0 {
			t.Error(n, x, ok)
		}
	}
	// Places of which there are too few, or too many.
	d.At = []int{5}
	if plain.At(d, 0) != 5 || plain.At(d, 1) != 0 {
		t.Error(plain.At(d, 0), plain.At(d, 1))
	}
	d.At = []int{5, 6, 7}
	if plain.At(d, 1) != 6 || plain.At(d, 2) != 0 {
		t.Error(plain.At(d, 1), plain.At(d, 2))
	}
}

func TestSeq(t *testing.T) {
	d := doc(sketch.Seq(1, 0, 1), sketch.Seq(), sketch.Tagged("!a", sketch.Seq(0)), sketch.Tagged("map", sketch.Seq(0)), sketch.Map("a", 0), sketch.Tagged("seq", sketch.Map("a", 0)), sketch.Str(""))
	for n, want := range [][]int{{1, 0, 1}, {}} {
		if l, ok := plain.Seq(d, n); !ok || !slices.Equal(l, want) {
			t.Error(n, l, ok)
		}
	}
	for _, n := range []int{2, 3, 4, 5, 6, 7, -1, math.MaxInt} {
		if l, ok := plain.Seq(d, n); ok || l != nil {
			t.Error(n, l, ok)
		}
	}
}

func TestMap(t *testing.T) {
	d := doc(sketch.Map("c a b", 5, 6, 5), sketch.Map(""), sketch.Tagged("!a", sketch.Map("a", 0)), sketch.Tagged("seq", sketch.Map("a", 0)), sketch.Seq(0), sketch.Tagged("map", sketch.Seq()), sketch.Str(""), sketch.Map("a b", 0), sketch.Map("a", 0, 0))
	was := sketch.Whole(d.Graph)
	e, ok := plain.Map(d, 0)
	if !ok || !slices.Equal(e.Keys, []string{"a", "b", "c"}) || !slices.Equal(e.Kids, []int{6, 5, 5}) {
		t.Error(e, ok)
	}
	if e.Behind("a") != 6 || e.Behind("c") != 5 || e.Behind("") != -1 || e.Behind("d") != -1 || e.Behind("aa") != -1 {
		t.Error(e)
	}
	// What is handed out is new memory.
	e.Keys[0], e.Kids[0] = "written", 77
	if !sketch.Equal(sketch.Whole(d.Graph), was) {
		t.Error(d)
	}
	if e, ok := plain.Map(d, 1); !ok || len(e.Keys) != 0 || len(e.Kids) != 0 || e.Behind("a") != -1 {
		t.Error(e, ok)
	}
	for _, n := range []int{2, 3, 4, 5, 6, 7, 8, 9, -1, math.MaxInt} {
		if e, ok := plain.Map(d, n); ok || e.Keys != nil || e.Kids != nil {
			t.Error(n, e, ok)
		}
	}
}

func TestAre(t *testing.T) {
	cases := []struct {
		keys, must, may []string
		want            bool
	}{
		{nil, nil, nil, true},
		{nil, nil, []string{"a"}, true},
		{nil, []string{"a"}, nil, false},
		{[]string{"a"}, []string{"a"}, nil, true},
		{[]string{"a"}, nil, []string{"a"}, true},
		{[]string{"a"}, nil, nil, false},
		{[]string{"a"}, []string{"b"}, []string{"a"}, false},
		{[]string{"a", "b"}, []string{"b", "a"}, nil, true},
		{[]string{"a", "b"}, []string{"b"}, []string{"c", "a"}, true},
		{[]string{"a", "b"}, []string{"b"}, []string{"c"}, false},
		{[]string{"a", "b"}, []string{"c", "a"}, []string{"b"}, false},
		{[]string{"a", "b", "c"}, []string{"c", "a"}, []string{"b", "d"}, true},
	}
	for _, c := range cases {
		e := plain.Entries{Keys: c.keys, Kids: make([]int, len(c.keys))}
		if got := e.Are(c.must, c.may...); got != c.want {
			t.Errorf("%+v: %v", c, got)
		}
	}
}
