package load_test

import (
	"slices"
	"testing"

	"stanhope/api"
	"stanhope/load"
	"stanhope/sketch"
)

const several = "&x\n- {b: &y [1, 2], a: *y, c: *x}\n- *y\n- {b: , a: }\n---\n[&x a, *x, [b]]\n---\nb: 1\na: 2\n"

// scribble writes into all lists of a document, and into the room behind their ends.
func scribble(d load.Doc) {
	sketch.ScribbleAll(d.Graph)
	at := d.At[:cap(d.At)]
	for i := range at {
		at[i] = -1
	}
}

// R3: what is handed out is anew each time, whatever is written into what was handed out ahead, and no two
// documents share memory.
func TestAnew(t *testing.T) {
	want := asked(several)
	first, f := load.Docs(several)
	if f.Bad() || len(first) != 3 {
		t.Fatal(told(first, f))
	}
	for i := range first {
		scribble(first[i])
		first[i].Root = 9
		docs, f := load.Docs(several)
		if got := told(docs, f); got != want {
			t.Errorf("%s, not %s", got, want)
		}
		if _, f := load.One("&x [a]\n---\nb"); f != (api.Fault{Errno: api.ErrMany, At: 11}) {
			t.Error(f, f.At)
		}
		fresh, _ := load.Docs(several)
		fresh[i] = load.Doc{}
		for j, d := range first[i+1:] {
			if got := tellDoc(d); got != tellDoc(fresh[i+1+j]) {
				t.Errorf("document %d is written into with %d: %s", i+1+j, i, got)
			}
		}
	}
}

// R3: the lists of one document share nothing with one another.
func TestApart(t *testing.T) {
	docs, _ := load.Docs(several)
	for _, d := range docs {
		want := sketch.Whole(d.Graph)
		at := slices.Clone(d.At[:cap(d.At)])
		for i, n := range d.Nodes {
			sketch.Scribble(n)
			want.Nodes[i].Keys, want.Nodes[i].Kids = d.Nodes[i].Keys[:cap(n.Keys)], d.Nodes[i].Kids[:cap(n.Kids)]
			if now := sketch.Whole(d.Graph); !sketch.Equal(now, want) || !slices.Equal(d.At[:cap(d.At)], at) {
				t.Fatalf("written into with node %d: %v, not %v", i, now, want)
			}
		}
	}
}

// R5: what is told is the same each time.
func TestAgain(t *testing.T) {
	want := asked(several)
	for range 20 {
		if got := asked(several); got != want {
			t.Fatal(got)
		}
		if got, want := asked("b: {a: , b: *x}\nc: {a: , a: }"), wrong(api.ErrAnchor, 12); got != want {
			t.Fatal(got)
		}
	}
}
