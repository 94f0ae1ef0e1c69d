package emit_test

import (
	"slices"
	"strings"
	"testing"

	"stanhope/api"
	"stanhope/emit"
	"stanhope/graph"
	"stanhope/sketch"
)

// P14.1: of graphs that may not be, Check's fault.
func TestMayNot(t *testing.T) {
	for i, g := range sketch.MayNot() {
		f := g.Check()
		if got := asked(t, g); !f.Bad() || got != wrong(f.Errno, f.At) {
			t.Errorf("%d: %.300s, not %v at %d", i, got, f, f.At)
		}
	}
	hold(t, []good{
		{graph.Graph{}, wrong(api.ErrShape, 0)},
		{sketch.Of(0, sketch.Str("x"), sketch.Seq(2)), wrong(api.ErrShape, 1)},
		{sketch.Of(0, sketch.Str("x"), sketch.Scalar("!", "x")), wrong(api.ErrShape, 1)},
		{sketch.Of(0, sketch.Str(a(1024))), a(1024) + "\n"},
		{sketch.Of(0, sketch.Str(a(1025))), wrong(api.ErrShape, 0)},
		{sketch.Of(0, sketch.Keyed(a(1025), 0)), wrong(api.ErrShape, 0)},
		{sketch.Of(0, make([]graph.Node, 4097)...), wrong(api.ErrNodes, 4096)},
		// Ahead of all others.
		{sketch.Of(0, append(sketch.Chain(100).Nodes, sketch.Seq(-1))...), wrong(api.ErrShape, 100)},
		{sketch.Of(0, append(long(70).Nodes, sketch.Seq(-1))...), wrong(api.ErrShape, 71)},
	})
}

// long is a sequence of that many scalars of 1024 bytes, each of which stands on a row of 1027.
func long(n int) graph.Graph {
	g := sketch.Of(0, sketch.Seq())
	for i := range n {
		g.Nodes[0].Kids = append(g.Nodes[0].Kids, i+1)
		g.Nodes = append(g.Nodes, sketch.Str(a(1024)))
	}
	return g
}

// nested is n sequences within one another; the innermost has a last item.
func nested(n int, last string) string {
	var b strings.Builder
	for i := range n - 1 {
		b.WriteString(strings.Repeat("  ", i) + "-\n")
	}
	return b.String() + strings.Repeat("  ", n-1) + "- " + last + "\n"
}

// looped is what nested is, where the first sequence is anchored and the innermost leads to it.
func looped(n int) string { return "&a1\n" + nested(n, "*a1") }

// P14.1: as deep as may be, and by one deeper.
func TestDeep(t *testing.T) {
	deep := func(at int) string { return wrong(api.ErrDeep, at) }
	turned := sketch.Of(69, sketch.Seq())
	for i := range 69 {
		turned.Nodes = append(turned.Nodes, sketch.Seq(i))
	}
	hold(t, []good{
		{sketch.Chain(63), nested(62, "[]")},
		{sketch.Chain(64), nested(63, "[]")},
		{sketch.Chain(65), deep(64)},
		{sketch.Chain(66), deep(64)},
		{sketch.Chain(4096), deep(64)},
		// A scalar, or an alias, is no collection.
		{sketch.Of(0, append(sketch.Chain(64, 64).Nodes, sketch.Str("x"))...), nested(64, "x")},
		{sketch.Of(0, append(sketch.Chain(64, 64).Nodes, sketch.Str("x\n"))...), nested(64, "|\n"+strings.Repeat("  ", 64)+"x")},
		{sketch.Of(0, append(sketch.Chain(65, 65).Nodes, sketch.Str("x"))...), deep(64)},
		{sketch.Loop(64), looped(64)},
		{sketch.Loop(65), deep(64)},
		{sketch.Loop(4096), deep(64)},
		{sketch.Of(9, sketch.Loop(65).Nodes...), deep(8)},
		// An empty one is, with a tag, too.
		{sketch.Of(0, append(sketch.Chain(64, 64).Nodes, sketch.Map(""))...), deep(64)},
		{sketch.Of(0, append(sketch.Chain(63, 63).Nodes, sketch.Map(""))...), nested(63, "{}")},
		{sketch.Of(0, append(sketch.Chain(64, 64).Nodes, sketch.Tagged("!t", sketch.Seq()))...), deep(64)},
		// It is told by its own number.
		{turned, deep(5)},
		{sketch.Of(1, sketch.Chain(66).Nodes...), deep(65)},
		{sketch.Of(2, sketch.Chain(66).Nodes...), nested(63, "[]")},
	})
}

// fan is a mapping of the keys z and a, of which both lead to chains of 70 sequences, that of z by lower numbers.
func fan() graph.Graph {
	g := sketch.Of(0, sketch.Map("z a", 1, 71))
	for i := range 140 {
		if i%70 == 69 {
			g.Nodes = append(g.Nodes, sketch.Seq())
			continue
		}
		g.Nodes = append(g.Nodes, sketch.Seq(i+2))
	}
	return g
}

// P14.1: the first collection that stands too deep, in the order.
func TestDeepOrder(t *testing.T) {
	hold(t, []good{{fan(), wrong(api.ErrDeep, 134)}})
	// What stands too deep on one way doesn't, where it comes on a shorter one first.
	way := sketch.Chain(66).Nodes
	last := len(way)
	for i := range way {
		if len(way[i].Kids) > 0 {
			way[i].Kids[0]++
		}
	}
	early := sketch.Of(0, append([]graph.Node{sketch.Map("a b", last, 1)}, way...)...)
	late := sketch.Of(0, append([]graph.Node{sketch.Map("b a", last, 1)}, way...)...)
	early.Nodes[last-1].Kids = []int{last, last}
	if got := asked(t, late); got != wrong(api.ErrDeep, 64) {
		t.Error(got)
	}
	// The chain is by two shorter, so that only its last one, which is a's, too, would stand too deep.
	early.Nodes[63].Kids[0] = last
	if got := asked(t, early); !strings.HasPrefix(got, "a: &a1 []\nb:\n  -\n") || !strings.HasSuffix(got, " - *a1\n") {
		t.Error(got)
	}
	late.Nodes[63].Kids[0] = last
	if got := asked(t, late); got != wrong(api.ErrDeep, last) {
		t.Error(got)
	}
	// Ahead of a text that is too long, wherever that is.
	g := fan()
	big := long(70).Nodes
	from := len(g.Nodes)
	for i := range big[0].Kids {
		big[0].Kids[i] += from
	}
	for _, key := range []string{"A", "m", "zz"} {
		h := sketch.Of(0, append(slices.Clone(g.Nodes), big...)...)
		h.Nodes[0].Keys = append(slices.Clone(h.Nodes[0].Keys), key)
		h.Nodes[0].Kids = append(slices.Clone(h.Nodes[0].Kids), from)
		if got := asked(t, h); got != wrong(api.ErrDeep, 134) {
			t.Errorf("%s: %.300s", key, got)
		}
	}
}

// sizes are graphs of each kind of row at the end of the text, with a text of that many bytes.
func sizes(n int) []graph.Graph {
	var l []graph.Graph
	for _, end := range []struct {
		nodes []graph.Node // of numbers from 81 on; the first is an item
		bytes int
	}{
		{[]graph.Node{sketch.Str("x")}, len("- x\n")},
		{[]graph.Node{sketch.Str("'")}, len("- ''''\n")},
		{[]graph.Node{sketch.Str("\x00")}, len("- \"\\x00\"\n")},
		{[]graph.Node{sketch.Str("x\ny\n\n")}, len("- |+\n  x\n  y\n\n")},
		{[]graph.Node{sketch.Scalar("!t", "x\ny")}, len("- !t |-\n  x\n  y\n")},
		{[]graph.Node{sketch.Seq()}, len("- []\n")},
		{[]graph.Node{sketch.Tagged("!t", sketch.Map("a", 82)), sketch.Str("x")}, len("- !t\n  a: x\n")},
		{[]graph.Node{sketch.Seq(81)}, len("- &a1\n  - *a1\n")},
		{[]graph.Node{sketch.Keyed("é", 82), sketch.Seq(82)}, len("-\n  'é': &a1\n    - *a1\n")},
	} {
		g := long(80)
		g.Nodes[0].Kids = append(g.Nodes[0].Kids, 81)
		g.Nodes = append(g.Nodes, end.nodes...)
		rest := n - end.bytes
		for i := 1; i <= 80; i++ {
			g.Nodes[i].Text = a(rest/80 - 3)
		}
		g.Nodes[1].Text += a(rest % 80)
		l = append(l, g)
	}
	return l
}

// P14.1: as many bytes as may be, and one more.
func TestSize(t *testing.T) {
	for n := 65530; n <= 65545; n++ {
		for i, g := range sizes(n) {
			got := asked(t, g)
			if n > 65536 && got != wrong(api.ErrSize, 65536) || n <= 65536 && len(got) != n {
				t.Errorf("%d, %d: %d bytes, %.60q", n, i, len(got), got)
			}
			// The --- counts of several.
			got = told(emit.Docs(g, sketch.Of(0, sketch.Str("x"))))
			if n > 65526 && got != wrong(api.ErrSize, 65536) {
				t.Errorf("%d, %d: %d bytes, %.60q", n, i, len(got), got)
			}
		}
	}
	for n := 65520; n <= 65530; n++ {
		for i, g := range sizes(n) {
			got := askedDocs(t, []graph.Graph{g, sketch.Of(0, sketch.Str("x"))})
			if n > 65526 && got != wrong(api.ErrSize, 65536) || n <= 65526 && len(got) != n+10 {
				t.Errorf("%d, %d: %d bytes, %.60q", n, i, len(got), got)
			}
		}
	}
	for _, n := range []int{66, 70, 100, 4095} {
		if got := asked(t, long(n)); got != wrong(api.ErrSize, 65536) {
			t.Errorf("%d: %.60q", n, got)
		}
	}
}

// P14.1: the faults of several graphs, and which is the first.
func TestDocsFaults(t *testing.T) {
	x, bad, deep := sketch.Of(0, sketch.Str("x")), sketch.Of(0, sketch.Seq(-1)), sketch.Chain(70)
	half := sizes(40000)[0]
	times := func(n int, g graph.Graph) []graph.Graph { return slices.Repeat([]graph.Graph{g}, n) }
	cases := []struct {
		l    []graph.Graph
		want string
	}{
		{times(16, x), strings.Repeat("---\nx\n", 16)},
		{times(17, x), wrong(api.ErrMany, 16)},
		{times(18, x), wrong(api.ErrMany, 16)},
		{times(5000, x), wrong(api.ErrMany, 16)},
		{times(17, bad), wrong(api.ErrMany, 16)},
		{times(17, half), wrong(api.ErrMany, 16)},
		{times(16, bad), wrong(api.ErrShape, 0)},
		{[]graph.Graph{x, x, bad}, wrong(api.ErrShape, 0)},
		{[]graph.Graph{x, deep, x}, wrong(api.ErrDeep, 64)},
		{[]graph.Graph{bad, deep}, wrong(api.ErrShape, 0)},
		{[]graph.Graph{deep, bad}, wrong(api.ErrDeep, 64)},
		{[]graph.Graph{x, graph.Graph{Nodes: make([]graph.Node, 4097)}, bad}, wrong(api.ErrNodes, 4096)},
		{[]graph.Graph{long(70), bad}, wrong(api.ErrSize, 65536)},
		{[]graph.Graph{bad, long(70)}, wrong(api.ErrShape, 0)},
		{[]graph.Graph{long(70), deep}, wrong(api.ErrSize, 65536)},
		{[]graph.Graph{x, long(70)}, wrong(api.ErrSize, 65536)},
		// All together are too long: behind each one's.
		{[]graph.Graph{half, half}, wrong(api.ErrSize, 65536)},
		{[]graph.Graph{half, half, bad}, wrong(api.ErrShape, 0)},
		{[]graph.Graph{half, half, x, deep}, wrong(api.ErrDeep, 64)},
	}
	for i, c := range cases {
		if got := askedDocs(t, c.l); got != c.want {
			t.Errorf("%d: %.300q, not %.300q", i, got, c.want)
		}
	}
}

// R1: great graphs end within moments: the text of what is too long isn't written to its end.
func TestEnds(t *testing.T) {
	kids := make([]int, 2000)
	for i := range kids {
		kids[i] = i
	}
	wide := sketch.Of(0)
	for range 2000 {
		wide.Nodes = append(wide.Nodes, sketch.Seq(kids...))
	}
	if got := told(emit.Graph(wide)); got != wrong(api.ErrDeep, 64) {
		t.Errorf("%.300q", got)
	}
	for i := range wide.Nodes[1:] {
		wide.Nodes[i+1] = sketch.Seq(make([]int, 2000)...)
	}
	if got := told(emit.Graph(wide)); got != wrong(api.ErrSize, 65536) {
		t.Errorf("%.300q", got)
	}
	many := sketch.Of(0, sketch.Seq(make([]int, 5000000)...))
	if got := told(emit.Graph(many)); got != wrong(api.ErrSize, 65536) {
		t.Errorf("%.300q", got)
	}
}
