package align_test

import (
	"math"
	"slices"
	"strings"
	"testing"

	"stanhope/align"
	"stanhope/api"
	"stanhope/carve"
	"stanhope/graph"
	"stanhope/sketch"
	"stanhope/value"
)

var str, seq, entries = sketch.Str, sketch.Seq, sketch.Map

// made is the pool of two graphs that may be.
func made(t *testing.T, a, b graph.Graph, l [][2]int) align.Pool {
	t.Helper()
	p, ok := align.Make(a, b, l)
	if !ok {
		t.Fatalf("%v and %v: no pool", a, b)
	}
	return p
}

// is holds a pool against the nodes and numbers that it should have.
func is(t *testing.T, name string, p align.Pool, nodes []graph.Node, to []int) {
	t.Helper()
	if !sketch.Equal(sketch.Of(0, p.Nodes...), sketch.Of(0, nodes...)) || !slices.Equal(p.To, to) {
		t.Errorf("%s: %v, not %v and %v", name, p, nodes, to)
	}
}

// The chapter's example 1.
func TestExample(t *testing.T) {
	a, b := sketch.Of(1, str("x"), seq(0, 1)), sketch.Of(0, entries("a b", 1, 2), str("y"), str("z"))
	is(t, "example", made(t, a, b, nil), []graph.Node{entries("a b", 1, 2), str("y"), str("z"), str("x"), seq(3, 4)}, []int{3, 4})
	is(t, "in vain", made(t, a, b, list("0:1 1:0 0:2 1:1")), []graph.Node{entries("a b", 1, 2), str("y"), str("z"), str("x"), seq(3, 4)}, []int{3, 4})
}

// P23.2: the nodes of the view by their numbers, and behind them those of the source that are in no pair.
func TestMake(t *testing.T) {
	x, y := str("x"), str("y")
	two := []graph.Node{x, x}
	for _, c := range []struct {
		name  string
		a, b  graph.Graph
		pairs string
		own   []graph.Node // those of the source alone
		to    []int
	}{
		{"none", sketch.Of(0, x), sketch.Of(0, x), "", []graph.Node{x}, []int{1}},
		{"one", sketch.Of(0, x), sketch.Of(0, x), "0:0", nil, []int{0}},
		{"twice", sketch.Of(0, x), sketch.Of(0, x), "0:0 0:0", nil, []int{0}},
		{"the first counts of one of the source", sketch.Of(0, x), sketch.Of(0, two...), "0:1 0:0", nil, []int{1}},
		{"the first counts of one of the view", sketch.Of(0, two...), sketch.Of(0, x), "1:0 0:0", []graph.Node{x}, []int{1, 0}},
		{"in order", sketch.Of(0, two...), sketch.Of(0, two...), "0:1 1:1 0:0 1:0", nil, []int{1, 0}},
		{"not alike", sketch.Of(0, x, y, x), sketch.Of(0, y, x), "0:0 2:0 2:1 1:1", []graph.Node{x, y}, []int{2, 3, 1}},
		{"passed over, then another", sketch.Of(0, x, y), sketch.Of(0, y, x), "1:1 0:1 0:0 1:0", nil, []int{1, 0}},
		{"no nodes", sketch.Of(0, x), sketch.Of(0, x), "1:0 0:1 -1:0 0:-1 9223372036854775807:0 0:-9223372036854775808 0:0", nil, []int{0}},
		{"all that is reached", sketch.Of(0, seq(1, 2), x, y), sketch.Of(1, y, seq(2, 0), x), "0:1", nil, []int{1, 2, 0}},
		{"a part", sketch.Of(0, seq(1, 2, 3), x, seq(1, 3), y), sketch.Of(0, seq(2, 1), y, x), "2:0", []graph.Node{seq(2, 0, 1)}, []int{3, 2, 0, 1}},
		{"what is behind is in the way", sketch.Of(0, seq(1, 2), x, x), sketch.Of(0, seq(1, 2), x, x), "1:2 0:0", []graph.Node{seq(2, 4), x}, []int{3, 2, 4}},
		{"what is ahead is in the way", sketch.Of(0, seq(1, 2), x, x), sketch.Of(0, seq(1, 2), x, x), "0:0 1:2 2:1", nil, []int{0, 1, 2}},
		{"shared by one alone", sketch.Of(0, seq(1, 1), x), sketch.Of(0, seq(1, 2), x, x), "0:0 1:2", []graph.Node{seq(2, 2)}, []int{3, 2}},
		{"nothing of what can't be joined", sketch.Of(0, seq(1, 2), x, y), sketch.Of(0, seq(1, 2), x, x), "0:0", []graph.Node{seq(4, 5), x, y}, []int{3, 4, 5}},
		{"entries as they stand", sketch.Of(0, entries("b a", 1, 2), x, y), sketch.Of(0, entries("a c b", 2, 0, 1), x, y), "2:2", []graph.Node{entries("b a", 4, 2), x}, []int{3, 4, 2}},
		{"entries by keys", sketch.Of(0, entries("b a", 1, 2), x, y), sketch.Of(0, entries("a b", 1, 2), y, x), "0:0", nil, []int{0, 2, 1}},
		{"a cycle", sketch.Of(0, seq(1), seq(2), seq(0)), sketch.Loop(3), "1:0", nil, []int{2, 0, 1}},
		{"a cycle alone", sketch.Of(2, seq(1), seq(0), seq(0, 3), x), sketch.Of(0, x), "3:0 0:0", []graph.Node{seq(2), seq(1), seq(1, 0)}, []int{1, 2, 3, 0}},
		{"what isn't reached", sketch.Of(0, x, y, seq(1), x), sketch.Of(1, x, y, seq(1)), "2:2 3:0", []graph.Node{x}, []int{3, 1, 2, 0}},
		{"tags", sketch.Of(0, sketch.Scalar("int", "1"), str("1"), sketch.Tagged("!a", seq())), sketch.Of(0, str("1"), sketch.Scalar("int", "1"), sketch.Tagged("!b", seq())), "0:0 1:1 2:2 0:1", []graph.Node{str("1"), sketch.Tagged("!a", seq())}, []int{1, 3, 4}},
	} {
		is(t, c.name, made(t, c.a, c.b, list(c.pairs)), slices.Concat(c.b.Nodes, c.own), c.to)
	}
}

// P23.2: graphs that may not be.
func TestMayNot(t *testing.T) {
	g := sketch.Of(0, str("x"))
	made(t, g, g, nil)
	for i, bad := range sketch.MayNot() {
		for _, c := range [][2]graph.Graph{{bad, g}, {g, bad}, {bad, bad}} {
			if p, ok := align.Make(c[0], c[1], list("0:0")); ok || len(p.Nodes) != 0 || len(p.To) != 0 {
				t.Errorf("%d: %v, %v", i, p, ok)
			}
		}
	}
}

// P23.2: as many nodes as may be, and pairs one behind the other that can't be joined.
func TestMany(t *testing.T) {
	l := sketch.Loop(4096)
	p := made(t, l, l, list("1:0"))
	if len(p.Nodes) != 4096 || len(p.To) != 4096 || p.To[0] != 4095 || p.To[4095] != 4094 {
		t.Error(len(p.Nodes), len(p.To))
	}
	p = made(t, l, sketch.Chain(4096), list("1:0 0:0 4095:4095"))
	if len(p.Nodes) != 8192 || p.To[0] != 4096 || p.To[4095] != 8191 || !slices.Equal(p.Nodes[8191].Kids, []int{4096}) {
		t.Error(len(p.Nodes), len(p.To))
	}
	c := sketch.Chain(2000)
	var pairs [][2]int
	for i := range 2000 {
		pairs = append(pairs, [2]int{i, i})
	}
	o := sketch.Chain(2000)
	o.Nodes[1999] = str("x")
	if p := made(t, c, o, pairs); len(p.Nodes) != 4000 {
		t.Error(len(p.Nodes))
	}
}

// P23.3: a value with the pool's numbers.
func TestMove(t *testing.T) {
	p := made(t, sketch.Of(0, str("x"), str("y"), str("z"), seq()), sketch.Of(0, str("v"), str("z"), str("x")), list("0:2 2:1"))
	if !slices.Equal(p.To, []int{2, 3, 1, 4}) {
		t.Fatal(p.To)
	}
	for _, c := range []struct{ from, to string }{
		{"^0", "^2"}, {"^1", "^3"}, {"^2", "^1"}, {"^3", "^4"},
		{"^4", "^4"}, {"^-1", "^-1"}, {"^5", "^5"}, {"^9223372036854775807", "^9223372036854775807"}, {"^-9223372036854775808", "^-9223372036854775808"},
		{"x", "x"}, {"1", "1"}, {"!a ''", "!a ''"}, {"[]", "[]"}, {"{}", "{}"},
		{"[^0, x, ^0, ^1]", "[^2, x, ^2, ^3]"},
		{"!l [[^3, []], !m {a: ^0, b: ~}, ^77]", "!l [[^4, []], !m {a: ^2, b: ~}, ^77]"},
		{"{a: {a: {a: ^2}}, b: '0', c: 0}", "{a: {a: {a: ^1}}, b: '0', c: 0}"},
	} {
		for _, v := range []value.Value{leaves(c.from), carve.Noisy(leaves(c.from))} {
			if got := p.Move(v); !carve.Equal(got, leaves(c.to)) {
				t.Errorf("%s: %+v", c.from, got)
			}
		}
		if got := (align.Pool{}).Move(leaves(c.from)); !carve.Equal(got, leaves(c.from)) {
			t.Errorf("%s: %+v", c.from, got)
		}
	}
	for _, v := range carve.Odd() {
		for _, x := range []value.Value{v, carve.Seq(carve.Leaf(0), v)} {
			if got := p.Move(x); !value.Same(got, carve.Moved(x, func(int) int { return 2 })) {
				t.Errorf("%+v: %+v", x, got)
			}
		}
	}
}

// pooled is a pool: a graph, whose numbers stay, behind a node.
func pooled(t *testing.T) align.Pool {
	t.Helper()
	return made(t, sketch.Of(0, str("apart")), sketch.Of(0,
		seq(1, 2, 4, 5), str("x"), seq(3, 1), seq(2, 3), entries("b a", 1, 5), sketch.Scalar("int", "1"), str("far"), sketch.Tagged("!m", entries("z y x", 7, 6, 1)),
	), nil)
}

// P23.3: the graph of what leaves reach, node by node, and the value with its numbers.
func TestTake(t *testing.T) {
	p := pooled(t)
	one := sketch.Scalar("int", "1")
	for _, c := range []struct {
		from, to string
		nodes    []graph.Node
	}{
		{"x", "x", nil},
		{"[]", "[]", nil},
		{"{a: [x, 1], b: {}}", "{a: [x, 1], b: {}}", nil},
		{"^0", "^0", []graph.Node{seq(1, 2, 4, 5), str("x"), seq(3, 1), seq(2, 3), entries("a b", 5, 1), one}},
		{"^1", "^0", []graph.Node{str("x")}},
		{"^8", "^0", []graph.Node{str("apart")}},
		{"^2", "^0", []graph.Node{seq(1, 2), seq(0, 1), str("x")}},
		{"^3", "^0", []graph.Node{seq(1, 0), seq(0, 2), str("x")}},
		{"^4", "^0", []graph.Node{entries("a b", 1, 2), one, str("x")}},
		{"^7", "^0", []graph.Node{sketch.Tagged("!m", entries("x y z", 1, 2, 0)), str("x"), str("far")}},
		{"[^1]", "[^0]", []graph.Node{str("x")}},
		{"[^1, ^1, y, ^1]", "[^0, ^0, y, ^0]", []graph.Node{str("x")}},
		{"[^4, ^1]", "[^0, ^2]", []graph.Node{entries("a b", 1, 2), one, str("x")}},
		{"[^1, ^4]", "[^0, ^1]", []graph.Node{str("x"), entries("a b", 2, 0), one}},
		{"[^5, ^4]", "[^0, ^1]", []graph.Node{one, entries("a b", 0, 2), str("x")}},
		{"[^8, ^6, ^1]", "[^0, ^1, ^2]", []graph.Node{str("apart"), str("far"), str("x")}},
		{"[^6, ^3, ^0]", "[^0, ^1, ^4]", []graph.Node{str("far"), seq(2, 1), seq(1, 3), str("x"), seq(3, 2, 5, 6), entries("a b", 6, 3), one}},
		{"{a: [^6], b: {a: ^8, c: ^7}, d: !a [!b c]}", "{a: [^0], b: {a: ^1, c: ^2}, d: !a [!b c]}", []graph.Node{str("far"), str("apart"), sketch.Tagged("!m", entries("x y z", 3, 0, 2)), str("x")}},
	} {
		for _, v := range []value.Value{leaves(c.from), carve.Noisy(leaves(c.from))} {
			x, g, n := p.Take(v)
			if n != api.OK || !carve.Equal(x, leaves(c.to)) || !sketch.Equal(g, sketch.Of(0, c.nodes...)) {
				t.Errorf("%s: %+v, %v, %v", c.from, x, g, n)
			}
		}
	}
}

// wrong holds that nothing is taken, which is told by an error.
func wrong(t *testing.T, p align.Pool, v value.Value, want api.Errno) {
	t.Helper()
	if x, g, n := p.Take(v); n != want || !carve.Equal(x, value.Value{}) || len(g.Nodes) != 0 || g.Root != 0 {
		t.Errorf("%.200v: %.200v, %.200v, %v, not %v", v, x, g, n, want)
	}
}

// P23.3: ErrShape: a leaf is no number of the pool.
func TestTakeShape(t *testing.T) {
	p := pooled(t)
	for _, n := range append(sketch.Odd(), len(p.Nodes), len(p.Nodes)+1, 4096) {
		for _, v := range []value.Value{carve.Leaf(n), carve.Seq(carve.Leaf(n)), carve.Seq(carve.Leaf(1), carve.Map("a b", carve.Str("x"), carve.Leaf(n)), carve.Leaf(0))} {
			wrong(t, p, v, api.ErrShape)
			wrong(t, align.Pool{}, v, api.ErrShape)
		}
	}
	wrong(t, align.Pool{}, carve.Leaf(0), api.ErrShape)
	// The chapter tells it ahead of ErrNodes.
	great := made(t, sketch.Chain(4096), sketch.Chain(4096), nil)
	wrong(t, great, carve.Seq(carve.Leaf(0), carve.Leaf(4096), carve.Leaf(8192)), api.ErrShape)
	wrong(t, great, carve.Seq(carve.Leaf(-1), carve.Leaf(0), carve.Leaf(4096)), api.ErrShape)
	// Of a value without leaves no pool is asked.
	for _, s := range []string{"x", "[[], {a: ''}]"} {
		if x, g, n := (align.Pool{}).Take(leaves(s)); n != api.OK || !carve.Equal(x, leaves(s)) || len(g.Nodes) != 0 || g.Root != 0 {
			t.Errorf("%s: %+v, %v, %v", s, x, g, n)
		}
	}
	if x, g, n := (align.Pool{}).Take(value.Value{}); n != api.OK || !carve.Equal(x, value.Value{}) || len(g.Nodes) != 0 {
		t.Error(x, g, n)
	}
}

// P23.3: ErrNodes: leaves reach more nodes than a graph may have.
func TestTakeNodes(t *testing.T) {
	p := made(t, sketch.Chain(4096), sketch.Chain(4096), nil)
	some := func(l ...int) value.Value {
		v := carve.Seq(carve.Str("x"))
		for _, n := range l {
			v.Kids = append(v.Kids, carve.Leaf(n))
		}
		return v
	}
	for _, c := range []struct {
		leaves []int
		nodes  int
	}{
		{[]int{0}, 4096}, {[]int{4096}, 4096}, {[]int{1}, 4095}, {[]int{1, 8191}, 4096}, {[]int{1, 8191, 8191, 5, 4095}, 4096},
		{[]int{0, 8191}, 0}, {[]int{4096, 4095}, 0}, {[]int{4095, 4096}, 0}, {[]int{1, 8190}, 0}, {[]int{0, 4096}, 0}, {[]int{2048, 6144}, 4096}, {[]int{2048, 6143}, 0},
	} {
		if c.nodes == 0 {
			wrong(t, p, some(c.leaves...), api.ErrNodes)
			continue
		}
		x, g, n := p.Take(some(c.leaves...))
		if n != api.OK || len(g.Nodes) != c.nodes || g.Check().Bad() || len(x.Leaves()) != len(c.leaves) || x.Leaves()[0] != 0 {
			t.Errorf("%v: %d, %v", c.leaves, len(g.Nodes), n)
		}
	}
	// How many nodes the value has is of no account.
	v := carve.Seq(slices.Repeat([]value.Value{carve.Leaf(0), carve.Str("x")}, 5000)...)
	if x, g, n := p.Take(v); n != api.OK || len(x.Kids) != 10000 || !sketch.Equal(g, sketch.Chain(4096)) {
		t.Error(n)
	}
}

// R1: values of any depth and width are gone through.
func TestDeep(t *testing.T) {
	const n = 1 << 18
	p := made(t, sketch.Of(0, str("x"), str("y")), sketch.Of(0, str("y"), str("z")), list("1:0"))
	for i, around := range []func(value.Value) value.Value{
		func(v value.Value) value.Value { return carve.Seq(v) },
		func(v value.Value) value.Value { return carve.Map("a b", carve.Leaf(1), v) },
		func(v value.Value) value.Value { return carve.Seq(v, carve.Str("x"), carve.Leaf(0)) },
	} {
		v := carve.Nested(n, carve.Leaf(0), around)
		x := p.Move(v)
		if y := carve.Nested(n, carve.Leaf(2), []func(value.Value) value.Value{
			around,
			func(v value.Value) value.Value { return carve.Map("a b", carve.Leaf(0), v) },
			func(v value.Value) value.Value { return carve.Seq(v, carve.Str("x"), carve.Leaf(2)) },
		}[i]); !value.Same(x, y) {
			t.Error(i)
		}
		x, g, e := p.Take(x)
		if e != api.OK || len(x.Leaves()) != len(v.Leaves()) || len(g.Nodes) != []int{1, 2, 1}[i] {
			t.Error(i, e, g)
		}
	}
	if x := p.Move(carve.Seq(slices.Repeat([]value.Value{carve.Leaf(0)}, n)...)); len(x.Kids) != n || x.Kids[n-1].Node != 2 {
		t.Error(len(x.Kids))
	}
	// Nodes of many edges.
	all := make([]int, 1500)
	for i := range all {
		all[i] = len(all) - 1 - i
	}
	dense := made(t, sketch.Of(0, str("x")), sketch.Of(0, slices.Repeat([]graph.Node{seq(all...)}, len(all))...), nil)
	if _, g, e := dense.Take(carve.Leaf(7)); e != api.OK || len(g.Nodes) != 1500 || g.Check().Bad() {
		t.Error(e, len(g.Nodes))
	}
}

// R1: pools that no call made.
func TestOddPools(t *testing.T) {
	for _, g := range sketch.MayNot() {
		for _, to := range [][]int{nil, {-1, 5000}, {math.MaxInt, math.MinInt}} {
			p := align.Pool{Nodes: g.Nodes, To: to}
			for _, s := range []string{"^0", "^1", "[^0, ^1, ^4096]", "x"} {
				p.Move(leaves(s))
				p.Take(leaves(s))
				p.Take(p.Move(leaves(s)))
			}
		}
	}
	long := strings.Repeat("k ", 9)
	p := align.Pool{Nodes: []graph.Node{entries(long), entries("a", 0, 0), entries(long, 0)}}
	p.Take(leaves("[^0, ^1, ^2]"))
}
