package value_test

import (
	"math/rand"
	"slices"
	"testing"

	"stanhope/api"
	"stanhope/carve"
	"stanhope/graph"
	"stanhope/sketch"
	"stanhope/spell"
	"stanhope/typ"
	"stanhope/value"
)

// resolved is a type, resolved, by definitions that may be; of a Union the Item that has the head, or a type of no Kind.
func resolved(d typ.Defs, t typ.Type, head string) typ.Type {
	switch t.Kind {
	case typ.Name:
		return resolved(d, d.Types[slices.Index(d.Names, t.Name)], head)
	case typ.Union:
		for _, i := range t.Items {
			if r := resolved(d, i, head); r.Kind != 0 && headOf(r) == head {
				return r
			}
		}
		return typ.Type{}
	}
	return t
}

// headOf is the head of what is of a type that is resolved and no Union.
func headOf(t typ.Type) string {
	switch t.Kind {
	case typ.Scalar, typ.Enum:
		return "." + t.Tag
	case typ.List, typ.Keyed:
		return "[" + t.Tag
	case typ.Record:
		return "{" + t.Tag
	}
	return ""
}

// behind is the type behind a key of a Record, and whether there is one.
func behind(t typ.Type, key string) (typ.Type, bool) {
	for _, f := range t.Fields {
		if f.Key == key {
			return f.Type, true
		}
	}
	if len(t.Items) > 0 {
		return t.Items[0], true
	}
	return typ.Type{}, false
}

// fits says whether what has that head, Text and keys is of a type that is resolved, what is below left aside.
func fits(t typ.Type, head, text string, keys []string) bool {
	if t.Kind == typ.Enum && !slices.Contains(t.Words, text) || headOf(t) == "" || headOf(t) != head {
		return false
	}
	if t.Kind != typ.Record {
		return true
	}
	for _, f := range t.Fields {
		if !f.Optional && !slices.Contains(keys, f.Key) {
			return false
		}
	}
	for _, k := range keys {
		if _, ok := behind(t, k); !ok {
			return false
		}
	}
	return true
}

// slowOf says whether a value that may be is of a type.
func slowOf(d typ.Defs, t typ.Type, v value.Value) bool {
	head := map[value.Kind]string{value.Scalar: ".", value.Seq: "[", value.Map: "{"}[v.Kind] + v.Tag
	r := resolved(d, t, head)
	if r.Kind == typ.Dag || r.Kind == typ.Any || v.Kind == value.Leaf {
		return (r.Kind == typ.Dag || r.Kind == typ.Any) && v.Kind == value.Leaf
	}
	if !fits(r, head, v.Text, v.Keys) {
		return false
	}
	for i, k := range v.Kids {
		kid, ok := typ.Type{}, false
		if v.Kind == value.Map {
			kid, ok = behind(r, v.Keys[i])
		} else {
			kid, ok = r.Items[0], true
		}
		if !ok || !slowOf(d, kid, k) {
			return false
		}
	}
	for i, k := range v.Kids {
		for _, o := range v.Kids[:i] {
			if r.Kind == typ.Keyed && o.Kids[slices.Index(o.Keys, r.Name)].Text == k.Kids[slices.Index(k.Keys, r.Name)].Text {
				return false
			}
		}
	}
	return true
}

// stop is a place that is still to be met, or a Keyed's node all of whose items were met.
type stop struct {
	of    typ.Type
	node  int
	twice bool
}

// slowFault is what is wrong with a graph that may be, by a type that may be: all places are met one by one, then all leaves are asked.
func slowFault(d typ.Defs, t typ.Type, g graph.Graph) api.Fault {
	var own, leaves, dags []int
	for todo := []stop{{of: t, node: g.Root}}; len(todo) > 0; {
		s := todo[0]
		todo = todo[1:]
		n := g.Nodes[s.node]
		if s.twice {
			if i := slowTwice(g, s); i >= 0 {
				return api.Fault{Errno: api.ErrTwice, At: i}
			}
			continue
		}
		if slices.Contains(own, s.node) {
			return api.Fault{Errno: api.ErrShare, At: s.node}
		}
		head := string(" .[{"[n.Kind]) + n.Tag
		r := resolved(d, s.of, head)
		if r.Kind == typ.Dag || r.Kind == typ.Any {
			leaves = append(leaves, s.node)
			if r.Kind == typ.Dag {
				dags = append(dags, s.node)
			}
			continue
		}
		own = append(own, s.node)
		if !fits(r, head, n.Text, n.Keys) {
			return api.Fault{Errno: api.ErrType, At: s.node}
		}
		todo = append(stops(r, g, s.node), todo...)
	}
	for _, l := range leaves {
		if slices.ContainsFunc(g.Reach(l), func(n int) bool { return slices.Contains(own, n) }) {
			return api.Fault{Errno: api.ErrShare, At: l}
		}
	}
	for _, l := range dags {
		if g.Cyclic(l) {
			return api.Fault{Errno: api.ErrCycle, At: l}
		}
	}
	return api.Fault{}
}

// stops are what is to be met below a node, of a type that is resolved.
func stops(r typ.Type, g graph.Graph, node int) []stop {
	var l []stop
	for i, k := range g.Edges(node) {
		kid := stop{node: k}
		if r.Kind == typ.Record {
			kid.of, _ = behind(r, slices.Sorted(slices.Values(g.Nodes[node].Keys))[i])
		} else {
			kid.of = r.Items[0]
		}
		l = append(l, kid)
	}
	if r.Kind == typ.Keyed {
		l = append(l, stop{of: r, node: node, twice: true})
	}
	return l
}

// slowTwice is the first of a Keyed's items whose key's Text one ahead has; -1, if there is none.
func slowTwice(g graph.Graph, s stop) int {
	var met []string
	for _, k := range g.Nodes[s.node].Kids {
		item := g.Nodes[k]
		text := g.Nodes[item.Kids[slices.Index(item.Keys, s.of.Name)]].Text
		if slices.Contains(met, text) {
			return k
		}
		met = append(met, text)
	}
	return -1
}

// slowValue is the value of a graph that is of a type.
func slowValue(d typ.Defs, t typ.Type, g graph.Graph, node int) value.Value {
	n := g.Nodes[node]
	r := resolved(d, t, string(" .[{"[n.Kind])+n.Tag)
	if r.Kind == typ.Dag || r.Kind == typ.Any {
		return carve.Leaf(node)
	}
	v := value.Value{Kind: value.Kind(n.Kind), Tag: n.Tag, Text: n.Text, Keys: slices.Sorted(slices.Values(n.Keys))}
	for _, s := range stops(r, g, node) {
		if !s.twice {
			v.Kids = append(v.Kids, slowValue(d, s.of, g, s.node))
		}
	}
	return v
}

// slowWeave is the woven graph of a value and a pool that both may be: all nodes of both, trimmed.
func slowWeave(v value.Value, pool graph.Graph) graph.Graph {
	g := graph.Graph{Nodes: slices.Clone(pool.Nodes)}
	var weave func(v value.Value) int
	weave = func(v value.Value) int {
		if v.Kind == value.Leaf {
			return v.Node
		}
		n := graph.Node{Kind: graph.Kind(v.Kind), Tag: v.Tag, Text: v.Text, Keys: v.Keys}
		for _, k := range v.Kids {
			n.Kids = append(n.Kids, weave(k))
		}
		g.Nodes = append(g.Nodes, n)
		return len(g.Nodes) - 1
	}
	g.Root = weave(v)
	return g.Trim()
}

// hold holds all that is told of a graph by a type against what is told slowly; it answers what is wrong.
func hold(t *testing.T, d typ.Defs, x typ.Type, g graph.Graph) api.Fault {
	t.Helper()
	v, f := value.Parse(d, x, g)
	if want := slowFault(d, x, g); f != want {
		t.Fatalf("%v by %s: %v at %d, not %v at %d", g, typ.Show(x), f, f.At, want, want.At)
	}
	if f.Bad() {
		if !carve.Equal(v, value.Value{}) {
			t.Fatalf("%v by %s: %+v, %v at %d", g, typ.Show(x), v, f, f.At)
		}
		return f
	}
	if want := slowValue(d, x, g, g.Root); !carve.Equal(v, want) {
		t.Fatalf("%v by %s: %+v, not %+v", g, typ.Show(x), v, want)
	}
	holdBack(t, d, x, g, v)
	return f
}

// smallDefs are definitions, and smallTypes types, by which all small graphs are gone through.
const smallDefs = "a=(str|[seq $a]|{map *:$a}|{!m}) b=(str|[seq any]|{map a:$b b?:dag}|{!m}) c=$b"

var smallTypes = []string{
	"str", "int", "any", "dag", "{!m}", "$a", "$b", "$c", `<str "x">`, `<str "y">`,
	"[seq any]", "[seq dag]", "[seq str]", "[seq $a]", "[seq $b]", "[seq [seq $a]]", "[seq by a {map a:str}]", "[seq by a {map a:str b?:any}]",
	"{map}", "{map *:any}", "{map *:dag}", "{map *:$a}", "{map a:any}", "{map a:dag}", "{map a:str}", "{map a:$a}", "{map b:str *:dag}",
	"{map a:any b:any}", "{map a:str b:any}", "{map a:any b:str}", "{map a:dag b:any}", "{map a:any b:dag}", "{map a:dag b:dag}", "{map a?:any b?:$b}", "{map a:[seq any] b?:any}",
	"([seq any]|str)", "([seq dag]|{map *:$a}|str)", "(str|({!m}|[seq $a])|{map a:any})",
}

// P16.1, P16.2, P16.4: all small graphs by many types.
func TestSmall(t *testing.T) {
	d := spell.Defs(smallDefs)
	met := map[api.Errno]int{}
	for _, s := range smallTypes {
		x := right(t, d, s)
		for _, g := range sketch.Small() {
			met[hold(t, d, x, g).Errno]++
		}
	}
	for _, e := range []api.Errno{api.OK, api.ErrType, api.ErrShare, api.ErrCycle} {
		if met[e] < 100 {
			t.Error(met)
		}
	}
}

// maker makes types, and graphs of these, as they fall.
type maker struct {
	sketch.Pick
	d            typ.Defs
	nodes        []graph.Node
	loops, falls []int // nodes to which places of the types Any and Dag lead
}

// one is one of some texts.
func (m *maker) one(l ...string) string { return l[m.Pick(len(l))] }

// some are some of the texts, rising.
func (m *maker) some(l ...string) []string {
	var s []string
	for _, x := range l {
		if m.Pick(2) == 0 {
			s = append(s, x)
		}
	}
	slices.Sort(s)
	return s
}

// typ is a type that is no deeper; whether it may be is left open.
func (m *maker) typ(deep int) typ.Type {
	n := 12
	if deep <= 0 {
		n = 6
	}
	switch m.Pick(n) {
	case 0, 1:
		return typ.Type{Kind: typ.Scalar, Tag: m.one("str", "str", "int", "bool", "null", "!a", "!b")}
	case 2:
		return typ.Type{Kind: typ.Enum, Tag: m.one("str", "!a"), Words: append(m.some("", "w", "x"), "y")}
	case 3:
		return typ.Type{Kind: typ.Name, Name: m.one("a", "b", "c")}
	case 4:
		return typ.Type{Kind: typ.Any}
	case 5:
		return typ.Type{Kind: typ.Dag}
	case 6, 7:
		return m.record(deep)
	case 8:
		return typ.Type{Kind: typ.List, Tag: m.one("seq", "seq", "!a"), Items: []typ.Type{m.typ(deep - 1)}}
	case 9:
		r := m.record(deep)
		key := typ.Field{Key: "k", Type: typ.Type{Kind: typ.Scalar, Tag: m.one("str", "int")}}
		r.Fields = append(slices.DeleteFunc(r.Fields, func(f typ.Field) bool { return f.Key >= "k" }), key)
		return typ.Type{Kind: typ.Keyed, Tag: m.one("seq", "seq", "!b"), Name: "k", Items: []typ.Type{r}}
	}
	u := typ.Type{Kind: typ.Union}
	for range 2 + m.Pick(3) {
		u.Items = append(u.Items, m.typ(deep-1))
	}
	return u
}

// record is a record.
func (m *maker) record(deep int) typ.Type {
	r := typ.Type{Kind: typ.Record, Tag: m.one("map", "map", "!a")}
	for _, k := range m.some("a", "b", "k", "é") {
		r.Fields = append(r.Fields, typ.Field{Key: k, Optional: m.Pick(3) == 0, Type: m.typ(deep - 1)})
	}
	if m.Pick(3) == 0 {
		r.Items = []typ.Type{m.typ(deep - 1)}
	}
	return r
}

// define makes definitions that may be.
func (m *maker) define() {
	for {
		m.d = typ.Defs{Names: []string{"a", "b", "c"}}
		for range m.d.Names {
			m.d.Types = append(m.d.Types, m.typ(3))
		}
		if !m.d.Check().Bad() {
			return
		}
	}
}

// right is a type that may be.
func (m *maker) right() typ.Type {
	for {
		if x := m.typ(1 + m.Pick(4)); !typ.Check(m.d, x).Bad() {
			return x
		}
	}
}

// add adds a node, and answers its number.
func (m *maker) add(n graph.Node) int {
	m.nodes = append(m.nodes, n)
	return len(m.nodes) - 1
}

// graph is a graph, mostly of a type.
func (m *maker) graph(t typ.Type) graph.Graph {
	m.nodes, m.loops, m.falls = m.Graph(1+m.Pick(5)).Nodes, nil, nil
	for i := range m.nodes {
		m.loops = append(m.loops, i)
	}
	for range 1 + m.Pick(5) {
		n := sketch.Str(m.one("x", "y"))
		if len(m.falls) > 0 && m.Pick(2) == 0 {
			n = sketch.Seq(m.falls[m.Pick(len(m.falls))], m.falls[m.Pick(len(m.falls))])
		}
		m.falls = append(m.falls, m.add(n))
	}
	root := m.node(t, 0)
	return sketch.Of(root, m.nodes...)
}

// leaf is the number of a node to which a place of the type Any or Dag leads.
func (m *maker) leaf(k typ.Kind) int {
	if k == typ.Any && m.Pick(2) == 0 {
		return m.loops[m.Pick(len(m.loops))]
	}
	return m.falls[m.Pick(len(m.falls))]
}

// node is the number of a node of a type that stands that deep.
func (m *maker) node(t typ.Type, deep int) int {
	if deep > 8 || m.Pick(40) == 0 {
		return m.leaf(typ.Any)
	}
	switch t.Kind {
	case typ.Name:
		r, _ := typ.Resolve(m.d, t)
		return m.node(r, deep)
	case typ.Union:
		return m.node(t.Items[m.Pick(len(t.Items))], deep+1)
	case typ.Enum:
		return m.add(sketch.Scalar(t.Tag, m.one(t.Words...)))
	case typ.Scalar:
		words := map[string][]string{"null": {""}, "bool": {"true", "false"}, "int": {"0", "1", "-5"}}[t.Tag]
		if words == nil {
			words = []string{"", "x", "y", "z"}
		}
		return m.add(sketch.Scalar(t.Tag, m.one(words...)))
	case typ.Record:
		return m.mapping(t, deep)
	case typ.List, typ.Keyed:
		n := graph.Node{Kind: graph.Seq, Tag: t.Tag}
		for range m.Pick(4) {
			n.Kids = append(n.Kids, m.node(t.Items[0], deep+1))
		}
		return m.add(n)
	}
	return m.leaf(t.Kind)
}

// mapping is the number of a node of a Record, its entries in any order.
func (m *maker) mapping(t typ.Type, deep int) int {
	n := graph.Node{Kind: graph.Map, Tag: t.Tag}
	put := func(key string, t typ.Type) {
		i := m.Pick(len(n.Keys) + 1)
		kid := m.node(t, deep+1)
		n.Keys, n.Kids = slices.Insert(n.Keys, i, key), slices.Insert(n.Kids, i, kid)
	}
	for _, f := range t.Fields {
		if !f.Optional || m.Pick(2) == 0 {
			put(f.Key, f.Type)
		}
	}
	if len(t.Items) > 0 {
		for _, k := range m.some("", "0", "r", "ü") {
			put(k, t.Items[0])
		}
	}
	return m.add(n)
}

// made is a maker with definitions, by which of them is asked.
func made(seed int64) *maker {
	m := &maker{Pick: rand.New(rand.NewSource(seed)).Intn}
	m.define()
	return m
}

// P16.1, P16.2, P16.4: types and graphs as they fall, the graphs with something changed, and moved.
func TestMade(t *testing.T) {
	m := made(16)
	met := map[api.Errno]int{}
	for range 4000 {
		m.define()
		for range 4 {
			x := m.right()
			g := m.graph(x)
			for range 4 {
				met[hold(t, m.d, x, g).Errno]++
				holdMoved(t, m, x, g)
				if h := m.spoiled(g); !h.Check().Bad() {
					g = h
				}
			}
		}
	}
	for _, e := range []api.Errno{api.OK, api.ErrType, api.ErrShare, api.ErrCycle, api.ErrTwice} {
		if met[e] < 500 {
			t.Error(met)
		}
	}
}

// spoiled is a graph with something changed, or with edges that lead elsewhere: often to a node that looks as the one they led to.
func (m *maker) spoiled(g graph.Graph) graph.Graph {
	if m.Pick(2) == 0 {
		return m.Changed(g)
	}
	h := sketch.Of(g.Root, slices.Clone(g.Nodes)...)
	for i, n := range h.Nodes {
		h.Nodes[i].Kids = slices.Clone(n.Kids)
		for j, k := range n.Kids {
			to := m.Pick(len(g.Nodes))
			if m.Pick(8) == 0 || g.Nodes[to].Kind == g.Nodes[k].Kind && g.Nodes[to].Tag == g.Nodes[k].Tag && m.Pick(4) > 0 {
				h.Nodes[i].Kids[j] = to
			}
		}
	}
	return h
}

// holdMoved asks whether of the same graph by other numbers, its entries in another order, the same is told.
func holdMoved(t *testing.T, m *maker, x typ.Type, g graph.Graph) {
	t.Helper()
	h, to := m.Moved(g, m.Pick(3))
	v, f := value.Parse(m.d, x, g)
	w, e := value.Parse(m.d, x, h)
	if f.Bad() {
		f.At = to[f.At]
	}
	if e != f || !f.Bad() && !carve.Equal(w, carve.Moved(v, func(n int) int { return to[n] })) {
		t.Fatalf("%v and %v by %s: %+v, %v at %d, and %+v, %v at %d", g, h, typ.Show(x), v, f, f.At, w, e, e.At)
	}
}

// P16.2, P16.3: values of types, with one thing changed, and by other types; without leaves Parse tells the same of what is woven.
func TestChanged(t *testing.T) {
	m := made(17)
	are, no := 0, 0
	for range 400 {
		m.define()
		x := m.right()
		g := m.graph(x)
		v, f := value.Parse(m.d, x, g)
		if f.Bad() || v.Size() > 100 {
			continue
		}
		other := m.right()
		for _, c := range append(carve.Changed(v), v) {
			if got := holdValue(t, m.d, x, c, g); got {
				are++
			} else {
				no++
			}
			holdValue(t, m.d, other, c, g)
			if value.Same(v, c) != carve.Equal(v, c) || value.Same(c, v) != carve.Equal(v, c) {
				t.Fatalf("%+v and %+v: same %v", v, c, value.Same(v, c))
			}
		}
	}
	if are < 1000 || no < 1000 {
		t.Error(are, no)
	}
}

// holdValue holds what is told of a value against what is told slowly; it answers whether it is of a type.
func holdValue(t *testing.T, d typ.Defs, x typ.Type, v value.Value, pool graph.Graph) bool {
	t.Helper()
	is, may := value.Of(d, x, v), v.May()
	if may && is != slowOf(d, x, v) {
		t.Fatalf("%+v by %s: %v", v, typ.Show(x), is)
	}
	g, f := value.Weave(v, pool)
	if f.Bad() != !may {
		t.Fatalf("%+v: may be %v, %v at %d", v, may, f, f.At)
	}
	if !may {
		return false
	}
	if want := slowWeave(v, pool); !sketch.Equal(g, want) {
		t.Fatalf("%+v in %v: %v, not %v", v, pool, g, want)
	}
	back, f := value.Parse(d, x, g)
	if len(v.Leaves()) == 0 && len(back.Leaves()) == 0 && f.Bad() == is {
		t.Fatalf("%+v by %s: %v, but %v at %d", v, typ.Show(x), is, f, f.At)
	}
	return is
}
