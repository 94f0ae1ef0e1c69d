package align_test

import (
	"maps"
	"math/rand"
	"slices"
	"testing"

	"stanhope/align"
	"stanhope/api"
	"stanhope/brew"
	"stanhope/carve"
	"stanhope/graph"
	"stanhope/iso"
	"stanhope/sketch"
	"stanhope/spell"
	"stanhope/typ"
	"stanhope/value"
)

// slowPairs are the pairs of two values of a type, as often as they stand.
func slowPairs(d typ.Defs, t typ.Type, v, w value.Value) [][2]int {
	var l [][2]int
	on := func(t typ.Type, v, w value.Value) { l = append(l, slowPairs(d, t, v, w)...) }
	switch t.Kind {
	case typ.Name:
		on(d.Types[slices.Index(d.Names, t.Name)], v, w)
	case typ.Union:
		for _, i := range t.Items {
			if value.Of(d, i, w) {
				on(i, v, w)
			}
		}
	case typ.Dag, typ.Any:
		if v.Kind == value.Leaf {
			l = append(l, [2]int{v.Node, w.Node})
		}
	case typ.Record:
		for i, k := range w.Keys {
			if x, ok := v.Get(k); ok {
				on(slowBehind(t, k), x, w.Kids[i])
			}
		}
	case typ.List:
		for i := range w.Kids {
			if v.Kind == value.Seq && i < len(v.Kids) {
				on(t.Items[0], v.Kids[i], w.Kids[i])
			}
		}
	case typ.Keyed:
		for _, y := range w.Kids {
			if x, ok := slowOld(v, y, t.Name); ok {
				on(t.Items[0], x, y)
			}
		}
	}
	return l
}

// slowBehind is the type behind a key of a Record that has one for it.
func slowBehind(t typ.Type, key string) typ.Type {
	for _, f := range t.Fields {
		if f.Key == key {
			return f.Type
		}
	}
	return t.Items[0]
}

// slowOld is the first of a sequence's items that has the scalar of an item behind a key.
func slowOld(v, y value.Value, key string) (value.Value, bool) {
	k, _ := y.Get(key)
	for _, x := range v.Kids {
		if o, ok := x.Get(key); ok && v.Kind == value.Seq && value.Same(o, k) {
			return x, true
		}
	}
	return value.Value{}, false
}

// once are pairs, each once.
func once(l [][2]int) [][2]int {
	var o [][2]int
	for _, p := range l {
		if !slices.Contains(o, p) {
			o = append(o, p)
		}
	}
	return o
}

// holdPairs holds the pairs of two values of a type against a plain reading.
func holdPairs(t *testing.T, d typ.Defs, x typ.Type, v, w value.Value) [][2]int {
	t.Helper()
	want, got := once(slowPairs(d, x, v, w)), align.Pairs(d, x, v, w)
	if !slices.Equal(got, want) {
		t.Fatalf("%s: %+v and %+v: %v, not %v", typ.Show(x), v, w, got, want)
	}
	// Of a value and itself all leaves are paired.
	if own := align.Pairs(d, x, v, v); !slices.Equal(own, alike(v)) {
		t.Fatalf("%s: %+v: %v", typ.Show(x), v, own)
	}
	return got
}

// P23.1: types and values as they fall.
func TestPairsFall(t *testing.T) {
	m := &brew.Maker{Pick: rand.New(rand.NewSource(231)).Intn, Often: 200}
	m.Types = spell.Defs(brew.Names)
	kinds, most := map[typ.Kind]int{}, 0
	for range 30000 {
		x := m.Typ(m.Pick(5))
		got := holdPairs(t, m.Types, x, m.Value(x, 4), m.Value(x, 4))
		if len(got) > 0 {
			kinds[x.Kind]++
		}
		most = max(most, len(got))
	}
	for _, k := range []typ.Kind{typ.Record, typ.List, typ.Keyed, typ.Union, typ.Name, typ.Dag, typ.Any} {
		if kinds[k] < 100 {
			t.Errorf("%d: %d", k, kinds[k])
		}
	}
	if most < 5 {
		t.Error(most)
	}
}

// P23.1: Unions, of which the values are of this Item or that.
func TestPairsUnions(t *testing.T) {
	m := &brew.Maker{Pick: rand.New(rand.NewSource(236)).Intn}
	m.Types = spell.Defs("k=<str \"x\" \"y\" \"z\"> r={map k:$k v:any w?:$s} s=([!a $s]|([!b $r]|[!c by k $r])|{!d k:$k v:any w?:$s}|{!e k:$s v?:any *:$s}|$t|str) t=({!f a?:any k?:any v?:any w?:any}|[!g any])")
	met := map[string]int{}
	for range 60000 {
		x := spell.Type([]string{"$s", "[seq $s]", "{map *:$s}", "$t"}[m.Pick(4)])
		v, w := m.Value(x, 6), m.Value(x, 6)
		if len(holdPairs(t, m.Types, x, v, w)) > 0 && x.Kind == typ.Name {
			met[v.Head()+" by "+w.Head()]++
		}
	}
	for _, s := range []string{"[!a by [!a", "[!b by [!b", "[!b by [!c", "[!c by [!b", "[!c by [!c", "{!d by {!d", "{!d by {!e", "{!e by {!d", "{!e by {!e", "{!e by {!f", "{!f by {!e", "{!f by {!d", "{!f by {!f", "[!g by [!g"} {
		if met[s] < 10 {
			t.Errorf("%s: %d", s, met[s])
		}
	}
}

// alike are the pairs of a value's leaves with themselves.
func alike(v value.Value) [][2]int {
	var l [][2]int
	for _, n := range v.Leaves() {
		l = append(l, [2]int{n, n})
	}
	return once(l)
}

// slowJoin is a match with a pair more, and all that come with it; false, if there is none.
func slowJoin(a, b graph.Graph, m map[int]int, x, y int) (map[int]int, bool) {
	if x < 0 || x >= len(a.Nodes) || y < 0 || y >= len(b.Nodes) {
		return m, false
	}
	next := maps.Clone(m)
	var visit func(x, y int) bool
	visit = func(x, y int) bool {
		if to, ok := next[x]; ok {
			return to == y
		}
		for _, o := range next {
			if o == y {
				return false
			}
		}
		if !sketch.LookAlike(a.Nodes[x], b.Nodes[y]) {
			return false
		}
		next[x] = y
		to := b.Edges(y)
		for i, k := range a.Edges(x) {
			if !visit(k, to[i]) {
				return false
			}
		}
		return true
	}
	if !visit(x, y) {
		return m, false
	}
	return next, true
}

// slowMake is the pool of two graphs that may be.
func slowMake(a, b graph.Graph, l [][2]int) align.Pool {
	m := map[int]int{}
	for _, p := range l {
		m, _ = slowJoin(a, b, m, p[0], p[1])
	}
	var p align.Pool
	for x := range a.Nodes {
		if _, ok := m[x]; !ok {
			ahead := 0
			for o := range x {
				if _, ok := m[o]; !ok {
					ahead++
				}
			}
			p.To = append(p.To, len(b.Nodes)+ahead)
			continue
		}
		p.To = append(p.To, m[x])
	}
	p.Nodes = slices.Clone(b.Nodes)
	for x, n := range a.Nodes {
		if _, ok := m[x]; !ok {
			kids := make([]int, 0)
			for _, k := range n.Kids {
				kids = append(kids, p.To[k])
			}
			n.Kids = kids
			p.Nodes = append(p.Nodes, n)
		}
	}
	return p
}

// some are pairs of nodes of two graphs, or of what is none, as they fall.
func some(pick sketch.Pick, a, b graph.Graph) [][2]int {
	var l [][2]int
	for range pick(6) {
		l = append(l, [2]int{pick(len(a.Nodes)+1) - pick(2), pick(len(b.Nodes)+1) - pick(2)})
	}
	return l
}

// fall are two graphs, and pairs of them, as they fall.
func fall(pick sketch.Pick) (a, b graph.Graph, l [][2]int) {
	a = pick.Graph(1 + pick(12))
	b = pick.Graph(1 + pick(12))
	if pick(4) > 0 {
		moved, to := pick.Moved(a, pick(3))
		b = moved
		for x, y := range to {
			if pick(3) == 0 {
				l = append(l, [2]int{x, y})
			}
		}
		if pick(2) == 0 {
			b = pick.Changed(b)
		}
	}
	l = append(l, some(pick, a, b)...)
	for i := range l {
		j := pick(i + 1)
		l[i], l[j] = l[j], l[i]
	}
	return a, b, l
}

// P23.2: graphs and pairs as they fall.
func TestMakeFall(t *testing.T) {
	pick := sketch.Pick(rand.New(rand.NewSource(232)).Intn)
	met := map[int]int{}
	for range 20000 {
		a, b, l := fall(pick)
		want := slowMake(a, b, l)
		p := made(t, a, b, l)
		if !sketch.Equal(sketch.Of(0, p.Nodes...), sketch.Of(0, want.Nodes...)) || !slices.Equal(p.To, want.To) {
			t.Fatalf("%v and %v by %v: %v, not %v", a, b, l, p, want)
		}
		switch len(p.Nodes) {
		case len(b.Nodes):
			met[0]++
		case len(a.Nodes) + len(b.Nodes):
			met[1]++
		default:
			met[2]++
		}
	}
	if met[0] < 2000 || met[1] < 2000 || met[2] < 2000 {
		t.Error(met)
	}
}

// P23.2: all small graphs, with all pairs one by one.
func TestMakeSmall(t *testing.T) {
	l := sketch.Small()
	for i, a := range l {
		for j, b := range l {
			if (i+j)%3 > 0 {
				continue
			}
			pairs := list("0:1 1:1 0:0 1:0")
			want, p := slowMake(a, b, pairs), made(t, a, b, pairs)
			if !sketch.Equal(sketch.Of(0, p.Nodes...), sketch.Of(0, want.Nodes...)) || !slices.Equal(p.To, want.To) {
				t.Fatalf("%v and %v: %v, not %v", a, b, p, want)
			}
		}
	}
}

// above is a graph with a root more, that leads to some nodes.
func above(nodes []graph.Node, leaves []int) graph.Graph {
	return sketch.Of(len(nodes), append(slices.Clone(nodes), seq(leaves...))...)
}

// slowTake is what leaves reach in a pool of fewer nodes than a graph may have, and the number
// of each node there: what is reached from a root above them, without it.
func slowTake(p align.Pool, leaves []int) ([]graph.Node, map[int]int) {
	g := above(p.Nodes, leaves)
	number := map[int]int{}
	for i, n := range g.Reach(g.Root) {
		number[n] = i - 1
	}
	nodes := g.Trim().Nodes[1:]
	for _, n := range nodes {
		for i := range n.Kids {
			n.Kids[i]--
		}
	}
	return nodes, number
}

// hung is a value with leaves below a number, as it falls.
func hung(pick sketch.Pick, n, deep int) value.Value {
	if deep == 0 || pick(4) == 0 {
		return carve.Leaf(pick(n))
	}
	v := carve.Seq()
	for range pick(4) {
		v.Kids = append(v.Kids, hung(pick, n, deep-1))
	}
	if pick(2) == 0 {
		v = carve.Map("a b c", append(v.Kids, carve.Str("x"), carve.Str("y"), carve.Str("z"))[:3]...)
	}
	return v
}

// P23.3: values as they fall, of pools as they fall.
func TestTakeFall(t *testing.T) {
	pick := sketch.Pick(rand.New(rand.NewSource(233)).Intn)
	for range 20000 {
		a, b, l := fall(pick)
		p := made(t, a, b, l)
		v := hung(pick, len(a.Nodes), 3)
		m := p.Move(v)
		if !carve.Equal(m, carve.Moved(v, func(n int) int { return p.To[n] })) {
			t.Fatalf("%v: %+v: %+v", p, v, m)
		}
		for _, w := range []value.Value{m, hung(pick, len(p.Nodes), 3), carve.Seq(m, hung(pick, len(b.Nodes), 2))} {
			nodes, number := slowTake(p, w.Leaves())
			x, g, n := p.Take(w)
			if n != api.OK || !sketch.Equal(g, sketch.Of(0, nodes...)) || !carve.Equal(x, carve.Moved(w, func(n int) int { return number[n] })) {
				t.Fatalf("%v: %+v: %+v, %v, %v, not %v", p, w, x, g, n, nodes)
			}
			if f := g.Check(); f.Bad() && len(nodes) > 0 {
				t.Fatalf("%v: %+v: %v", p, w, g)
			}
		}
		// What was taken, taken again of a pool of it alone, is as it was.
		x, g, _ := p.Take(m)
		if len(g.Nodes) > 0 {
			again := made(t, g, g, nil)
			if y, h, n := again.Take(x); n != api.OK || !sketch.Equal(g, h) || !carve.Equal(x, y) {
				t.Fatalf("%+v, %v: %+v, %v", x, g, y, h)
			}
		}
	}
}

// P23.4: of two copies of a graph, with all leaves paired with themselves, what they reach is that graph's.
func TestCopies(t *testing.T) {
	pick := sketch.Pick(rand.New(rand.NewSource(234)).Intn)
	for range 10000 {
		a := pick.Graph(1 + pick(20))
		b, to := a, make([]int, len(a.Nodes))
		for i := range to {
			to[i] = i
		}
		if pick(2) == 0 {
			b, to = pick.Moved(a, pick(4))
		}
		v := hung(pick, len(a.Nodes), 3)
		w := carve.Moved(v, func(n int) int { return to[n] })
		var l [][2]int
		for _, n := range v.Leaves() {
			l = append(l, [2]int{n, to[n]})
		}
		p := made(t, a, b, l)
		if m := p.Move(v); !carve.Equal(m, w) {
			t.Fatalf("%v and %v: %+v: %+v, not %+v", a, b, v, m, w)
		}
		x, g, n := p.Take(w)
		if n != api.OK || !iso.Same(above(g.Nodes, x.Leaves()), above(a.Nodes, v.Leaves())) {
			t.Fatalf("%v: %+v: %v, %+v, %v", a, v, n, x, g)
		}
		// Nothing of the source is there that only one of both has.
		for _, o := range above(a.Nodes, v.Leaves()).Reach(len(a.Nodes))[1:] {
			if p.To[o] != to[o] {
				t.Fatalf("%v and %v: %+v: %v", a, b, v, p.To)
			}
		}
	}
}

// P23.4: likewise where the pairs are told by a type.
func TestCopiesByType(t *testing.T) {
	m := &brew.Maker{Pick: rand.New(rand.NewSource(235)).Intn, Often: 200}
	m.Types = spell.Defs(brew.Names)
	pick := sketch.Pick(m.Pick)
	leaves := 0
	for range 10000 {
		x := m.Typ(m.Pick(5))
		v := m.Value(x, 4)
		a := pick.Graph(5 + pick(9))
		b, to := pick.Moved(a, pick(4))
		w := carve.Moved(v, func(n int) int { return to[n] })
		p := made(t, a, b, align.Pairs(m.Types, x, v, w))
		y, g, n := p.Take(p.Move(v))
		if n != api.OK || !carve.Equal(p.Move(v), w) || !iso.Same(above(g.Nodes, y.Leaves()), above(a.Nodes, v.Leaves())) {
			t.Fatalf("%v: %+v: %v, %+v, %v", a, v, n, y, g)
		}
		leaves += len(v.Leaves())
	}
	if leaves < 5000 {
		t.Error(leaves)
	}
}
