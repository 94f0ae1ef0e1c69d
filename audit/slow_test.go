package audit_test

import (
	"math/rand"
	"slices"
	"sort"
	"strconv"
	"strings"
	"testing"

	"stanhope/audit"
	"stanhope/graph"
	"stanhope/iso"
	"stanhope/quote"
	"stanhope/sketch"
	"stanhope/style"
	"stanhope/unfold"
)

// slow goes through two graphs as the chapter says, a step in the words of a way within another.
type slow struct {
	a, b  graph.Graph
	met   []string
	lines []string
}

// entries are where a node's edges lead, by what stands for them in a way, with the order of these.
func entries(n graph.Node) (map[string]int, []string) {
	l, order := make(map[string]int), []string(nil)
	keys := slices.Clone(n.Keys)
	sort.Strings(keys)
	for i, k := range n.Kids {
		if n.Kind == graph.Map {
			k = n.Kids[slices.Index(n.Keys, keys[i])]
			order = append(order, style.Key(keys[i]))
		} else {
			order = append(order, strconv.Itoa(i))
		}
		l[order[i]] = k
	}
	return l, order
}

// said is a node's word.
func said(n graph.Node) string {
	_, order := entries(n)
	switch n.Kind {
	case graph.Scalar:
		return n.Tag + " " + quote.Double(n.Text)
	case graph.Map:
		return "{" + strings.Join(append([]string{n.Tag}, order...), " ") + "}"
	}
	return "[" + n.Tag + " " + strconv.Itoa(len(n.Kids)) + "]"
}

// visit goes on to two nodes.
func (s *slow) visit(x, y int, way string) {
	pair := strconv.Itoa(x) + " and " + strconv.Itoa(y)
	if slices.Contains(s.met, pair) {
		return
	}
	s.met = append(s.met, pair)
	n, o := s.a.Nodes[x], s.b.Nodes[y]
	if !sketch.LookAlike(n, o) {
		s.lines = append(s.lines, "/"+strings.TrimPrefix(way, "/")+": "+said(n)+" | "+said(o))
	}
	if n.Kind != o.Kind {
		return
	}
	to, order := entries(n)
	other, _ := entries(o)
	for _, step := range order {
		if k, ok := other[step]; ok {
			s.visit(to[step], k, way+"/"+step)
		}
	}
}

// slowDiff is what Diff is to answer of graphs that may be.
func slowDiff(a, b graph.Graph) []string {
	s := slow{a: a, b: b}
	s.visit(a.Root, b.Root, "")
	return s.lines[:min(len(s.lines), 64)]
}

// differ holds the difference of two graphs against the slow reading; there is none just if they are of one kind.
func differ(t *testing.T, a, b graph.Graph) int {
	t.Helper()
	l, want := audit.Diff(a, b), slowDiff(a, b)
	if !slices.Equal(l, want) {
		t.Fatalf("%v and %v:\n%s\nnot\n%s", a, b, strings.Join(l, "\n"), strings.Join(want, "\n"))
	}
	if unfold.Alike(a, b) != (len(l) == 0) {
		t.Fatalf("%v and %v: %q", a, b, l)
	}
	return len(l)
}

// P27.2, P27.3: all small graphs.
func TestSmall(t *testing.T) {
	l := sketch.Small()
	for i, a := range l {
		for j, b := range l {
			// Not all pairs, which would take long.
			if (i+j)%5 == 0 || i == j {
				differ(t, a, b)
			}
		}
	}
}

// P27.2: nodes of all looks.
func TestLooks(t *testing.T) {
	at := func(n graph.Node) graph.Graph {
		return sketch.Of(1, sketch.Seq(), n, sketch.Str("t"), sketch.Str("u"), sketch.Str("v"))
	}
	for i, n := range sketch.Looks() {
		for j, o := range sketch.Looks() {
			if l := differ(t, at(n), at(o)); (i == j) != (l == 0) {
				t.Error(n, o, l)
			}
		}
	}
}

// changed is a graph with some things changed, that still may be.
func changed(pick sketch.Pick, g graph.Graph, n int) graph.Graph {
	for range n {
		if c := pick.Changed(g); !c.Check().Bad() {
			g = c
		}
	}
	return g
}

// P27.2, P27.3: graphs as they fall, moved, spread and changed.
func TestFall(t *testing.T) {
	pick := sketch.Pick(rand.New(rand.NewSource(272)).Intn)
	alike, few, many := 0, 0, 0
	for range 4000 {
		a := pick.Graph(1 + pick(12))
		b, _ := pick.Moved(a, pick(3))
		switch pick(4) {
		case 0:
			b = pick.Graph(1 + pick(12))
		case 1:
			b = unfold.Fold(b)
		}
		b = changed(pick, b, pick(3))
		switch n := differ(t, a, b); {
		case n == 0 && !iso.Same(a, b):
			alike++
		case n > 8:
			many++
		case n > 0:
			few++
		}
		if differ(t, a, a) != 0 {
			t.Fatal(a)
		}
	}
	if alike < 80 || few < 1000 || many < 20 {
		t.Error(alike, few, many)
	}
	for range 100 {
		differ(t, pick.Graph(30+pick(30)), pick.Graph(30+pick(30)))
	}
}

// P27.2: both ways round the pairs are the same, and so are their words, which stand the other way.
func TestTurned(t *testing.T) {
	pick := sketch.Pick(rand.New(rand.NewSource(273)).Intn)
	for range 300 {
		a := pick.Graph(1 + pick(9))
		b := changed(pick, a, 2)
		there, back := audit.Diff(a, b), audit.Diff(b, a)
		if len(there) != len(back) {
			t.Fatalf("%v and %v: %q and %q", a, b, there, back)
		}
		for i, s := range there {
			way, words, _ := strings.Cut(s, ": ")
			left, right, _ := strings.Cut(words, " | ")
			if back[i] != way+": "+right+" | "+left {
				t.Fatalf("%q and %q", s, back[i])
			}
		}
	}
}

// R3, R5: what is handed in stays as it is, whatever is written into the lines; it is the same each time.
func TestHandedIn(t *testing.T) {
	a, b := sketch.Roomy(), sketch.Roomy()
	b.Nodes[2] = sketch.Str("z")
	was, other := sketch.Whole(a), sketch.Whole(b)
	want := audit.Diff(a, b)
	if len(want) == 0 {
		t.Fatal("no lines")
	}
	for range 20 {
		l := audit.Diff(a, b)
		if !slices.Equal(l, want) {
			t.Fatalf("%q, not %q", l, want)
		}
		for i := range l[:cap(l)] {
			l[:cap(l)][i] = "written"
		}
	}
	if !sketch.Equal(sketch.Whole(a), was) || !sketch.Equal(sketch.Whole(b), other) {
		t.Error(a, b)
	}
}
