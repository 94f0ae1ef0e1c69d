package iso_test

import (
	"slices"
	"testing"

	"stanhope/graph"
	"stanhope/iso"
	"stanhope/sketch"
)

// R3: what is handed in stays as it is.
func TestHandedIn(t *testing.T) {
	a, b := sketch.Roomy(), sketch.Roomy()
	was := sketch.Whole(a)
	m := iso.New(a, b)
	for x := range a.Nodes {
		for y := range b.Nodes {
			m.Join(x, y)
		}
	}
	iso.Same(a, b)
	iso.Pairs(a, b)
	iso.Code(a)
	iso.Code(b)
	for _, g := range []graph.Graph{a, b} {
		if now := sketch.Whole(g); !sketch.Equal(now, was) {
			t.Errorf("%v, not %v", now, was)
		}
	}
}

// R3: what was handed in isn't kept: a match goes on as it was, whatever is written there.
func TestNotKept(t *testing.T) {
	a, b := sketch.Roomy(), sketch.Roomy()
	m := iso.New(a, b)
	sketch.ScribbleAll(a)
	if !m.Join(2, 2) {
		t.Error("a scalar")
	}
	sketch.ScribbleAll(b)
	if m.Join(0, 1) || m.Join(3, 2) || !m.Join(1, 1) || m.Len() != 3 {
		t.Error("joined", m.Len())
	}
	holds(t, "written", m, [2]int{0, 0}, [2]int{1, 1}, [2]int{2, 2})
}

// R3: nobody keeps what is handed out.
func TestHandedOut(t *testing.T) {
	a, b := sketch.Roomy(), sketch.Roomy()
	want := [][2]int{{0, 0}, {1, 1}, {2, 2}}
	for range 2 {
		l, ok := iso.Pairs(a, b)
		if !ok || !slices.Equal(l, want) {
			t.Fatal(l, ok)
		}
		l = l[:cap(l)]
		for i := range l {
			l[i] = [2]int{77, 77}
		}
	}
}

// R5: matches don't hang on one another, and what is told is the same each time.
func TestAgain(t *testing.T) {
	g := of(0, str("x"), str("x"))
	code := iso.Code(g)
	first, second := iso.New(g, g), iso.New(g, g)
	for range 20 {
		if !first.Join(0, 1) || !second.Join(0, 0) || !second.Join(1, 1) {
			t.Fatal("joined")
		}
		holds(t, "first", first, [2]int{0, 1})
		holds(t, "second", second, [2]int{0, 0}, [2]int{1, 1})
		if iso.Code(g) != code {
			t.Fatal(iso.Code(g), code)
		}
	}
}
