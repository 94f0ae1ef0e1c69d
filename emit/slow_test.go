package emit_test

import (
	"fmt"
	"math/rand"
	"slices"
	"strings"
	"testing"

	"stanhope/api"
	"stanhope/emit"
	"stanhope/graph"
	"stanhope/iso"
	"stanhope/sketch"
	"stanhope/style"
)

// slow is a slow reading: texts are made from below, each line with its blanks laid ahead one by one.
type slow struct {
	g       graph.Graph
	reached []int
	order   []int // the nodes that came
	named   []int // those of them that are anchored
	fault   api.Fault
}

// entries are a node's edges, in their order, each with what begins its row.
func (l *slow) entries(n int) (begin []string, to []int) {
	node := l.g.Nodes[n]
	if node.Kind == graph.Seq {
		return slices.Repeat([]string{"-"}, len(node.Kids)), node.Kids
	}
	keys := slices.Clone(node.Keys)
	slices.Sort(keys)
	for _, k := range keys {
		begin = append(begin, style.Key(k)+":")
		to = append(to, node.Kids[slices.Index(node.Keys, k)])
	}
	return begin, to
}

// reach finds what is reached from the root.
func (l *slow) reach() {
	l.reached = []int{l.g.Root}
	for i := 0; i < len(l.reached); i++ {
		for _, k := range l.g.Nodes[l.reached[i]].Kids {
			if !slices.Contains(l.reached, k) {
				l.reached = append(l.reached, k)
			}
		}
	}
}

// edges is how many edges lead to a node, and for the root one more.
func (l *slow) edges(n int) int {
	count := 0
	for _, m := range l.reached {
		for _, k := range l.g.Nodes[m].Kids {
			if k == n {
				count++
			}
		}
	}
	if n == l.g.Root {
		count++
	}
	return count
}

// below is lines, with blanks ahead of those that have a byte.
func below(lines []string) []string {
	var out []string
	for _, s := range lines {
		if s != "" {
			s = "  " + s
		}
		out = append(out, s)
	}
	return out
}

// node is what stands of a node on its row, and the lines below, as they stand where the row is indented by 0:
// rows of collections not yet indented by more.
func (l *slow) node(n, within int) (words, lines []string) {
	if slices.Contains(l.order, n) {
		return []string{fmt.Sprintf("*a%d", 1+slices.Index(l.named, n))}, nil
	}
	l.order = append(l.order, n)
	if l.edges(n) > 1 {
		l.named = append(l.named, n)
		words = append(words, fmt.Sprintf("&a%d", len(l.named)))
	}
	node := l.g.Nodes[n]
	if node.Kind == graph.Scalar {
		head, rest := style.Write(node.Tag, node.Text, 0)
		return append(words, head), rest
	}
	if within >= 64 && !l.fault.Bad() {
		l.fault = api.Fault{Errno: api.ErrDeep, At: n}
	}
	if node.Tag[0] == '!' {
		words = append(words, node.Tag)
	}
	if len(node.Kids) == 0 {
		return append(words, map[graph.Kind]string{graph.Seq: "[]", graph.Map: "{}"}[node.Kind]), nil
	}
	begin, to := l.entries(n)
	for i, k := range to {
		head, rest := l.node(k, within+1)
		lines = append(lines, strings.Join(append([]string{begin[i]}, head...), " "))
		lines = append(lines, below(rest)...)
	}
	return words, lines
}

// slowGraph is Graph, read in another way.
func slowGraph(g graph.Graph) (string, api.Fault) {
	if f := g.Check(); f.Bad() {
		return "", f
	}
	l := slow{g: g}
	l.reach()
	words, lines := l.node(g.Root, 0)
	if g.Nodes[g.Root].Kind == graph.Scalar {
		lines = below(lines)
	}
	var s string
	if len(words) > 0 {
		s = strings.Join(words, " ") + "\n"
	}
	for _, x := range lines {
		s += x + "\n"
	}
	switch {
	case l.fault.Bad():
		return "", l.fault
	case len(s) > 65536:
		return "", api.Fault{Errno: api.ErrSize, At: 65536}
	}
	return s, api.Fault{}
}

// same holds a graph's text against the slow reading; it answers it.
func same(t *testing.T, g graph.Graph) string {
	t.Helper()
	want := told(slowGraph(g))
	if got := asked(t, g); got != want {
		t.Fatalf("%v: %.300q, not %.300q", g, got, want)
	}
	return want
}

// texts holds that graphs have one text just if they are the same.
type texts struct {
	code, text map[string]string // of each text the code, of each code the text
}

func newTexts() texts { return texts{map[string]string{}, map[string]string{}} }

// take takes a graph with its text.
func (l texts) take(t *testing.T, g graph.Graph, s string) {
	t.Helper()
	code := iso.Code(g)
	if other, ok := l.code[s]; ok && other != code {
		t.Fatalf("%v: %q is the text of another", g, s)
	}
	if other, ok := l.text[code]; ok && other != s {
		t.Fatalf("%v: %q, and %q", g, s, other)
	}
	l.code[s], l.text[code] = code, s
}

// P14.1 and P14.2: all small graphs.
func TestSmall(t *testing.T) {
	l := newTexts()
	for _, g := range sketch.Small() {
		l.take(t, g, same(t, g))
	}
	if len(l.code) < 100 || len(l.code) == len(sketch.Small()) {
		t.Error(len(l.code))
	}
}

// P14.1 and P14.2: nodes of all looks, that of each look leading to one of each, or to none.
func TestLooks(t *testing.T) {
	l := newTexts()
	for _, n := range sketch.Looks() {
		for _, o := range sketch.Looks() {
			for _, p := range []graph.Node{sketch.Str("x"), sketch.Seq(), sketch.Seq(2), sketch.Map("b a", 1, 2)} {
				for root := range 3 {
					g := sketch.Of(root, n, p, o, sketch.Str("x"), n)
					l.take(t, g, same(t, g))
				}
			}
		}
	}
	if len(l.code) < 400 {
		t.Error(len(l.code))
	}
}

// contents are scalars of each form, and keys.
func contents() ([]graph.Node, []string) {
	l := []graph.Node{sketch.Scalar("null", ""), sketch.Scalar("bool", "true"), sketch.Scalar("bool", "false"), sketch.Scalar("int", "0"), sketch.Scalar("int", "-12")}
	keys := []string{"", "a", "b", "true", "1", "-", "a b", "a:", "it's", "\"", "\\", "\n", "a\nb\n", "\t", "é", "\ufeff", "z.z/z", "*a1", "&a1", "[", "{}", "#"}
	for _, s := range append(keys, "~", "null", "12", "a\nb", "a\n", "a\n\n", "a\n\n b\n", "a \nb", " a", "---", "- a", "a: b", "---\n---\n", "# a\n#\n") {
		l = append(l, sketch.Str(s), sketch.Scalar("!t", s))
	}
	return l, keys
}

// dressed is a graph whose scalars are any of some, whose keys are any of some.
func dressed(r *rand.Rand, g graph.Graph) graph.Graph {
	scalars, keys := contents()
	for i, n := range g.Nodes {
		if n.Kind == graph.Scalar {
			g.Nodes[i] = scalars[r.Intn(len(scalars))]
		}
		if r.Intn(2) == 0 {
			continue
		}
		for j, k := range r.Perm(len(keys))[:len(n.Keys)] {
			n.Keys[j] = keys[k]
		}
	}
	return g
}

// P14.1 and P14.2: greater graphs, as they fall, moved, and with one thing changed.
func TestPicked(t *testing.T) {
	r := rand.New(rand.NewSource(14))
	pick := sketch.Pick(r.Intn)
	cyclic, shared, alike := 0, 0, 0
	for range 10000 {
		g := dressed(r, pick.Graph(1+r.Intn(24)))
		s := same(t, g)
		if g.Cyclic(g.Root) {
			cyclic++
		}
		if strings.Contains(s, "&a2 ") {
			shared++
		}
		if moved, _ := pick.Moved(g, r.Intn(4)); same(t, moved) != s {
			t.Fatalf("%v, moved %v: %q, not %q", g, moved, same(t, moved), s)
		}
		changed := pick.Changed(g)
		if iso.Same(g, changed) != (same(t, changed) == s) {
			t.Fatalf("%v, changed %v: %q, %q", g, changed, same(t, changed), s)
		}
		if iso.Same(g, changed) {
			alike++
		}
	}
	if cyclic < 2000 || shared < 1000 || alike < 1000 || alike > 9000 {
		t.Error(cyclic, shared, alike)
	}
}

// P14.1: faults of graphs, as they fall, with chains about as deep as may be, and texts about as long.
func TestPickedFaults(t *testing.T) {
	r := rand.New(rand.NewSource(15))
	pick := sketch.Pick(r.Intn)
	met := map[api.Errno]int{}
	for range 800 {
		g := sketch.Of(0)
		n := 60 + r.Intn(20)
		for i := range n {
			kids := []int{min(i+1, n-1), pick(n)}
			if r.Intn(60) > 0 {
				kids = kids[:1]
			}
			g.Nodes = append(g.Nodes, sketch.Map("b a", kids...))
			g.Nodes[i].Keys = g.Nodes[i].Keys[:len(kids)]
		}
		if r.Intn(2) == 0 {
			for i := range n {
				g.Nodes[i].Keys[0] = a(900 + r.Intn(124))
			}
		}
		switch r.Intn(4) {
		case 0:
			g.Nodes[n-1] = sketch.Str("x")
		case 1:
			g.Nodes[n-1] = sketch.Seq()
		case 2:
			g.Nodes[pick(n)] = sketch.Tagged("!"+a(pick(34)), sketch.Seq())
		}
		moved, _ := pick.Moved(g, 3)
		if g.Check().Bad() {
			moved = g
		}
		same(t, moved)
		_, f := emit.Graph(moved)
		met[f.Errno]++
	}
	for _, e := range []api.Errno{api.OK, api.ErrShape, api.ErrDeep, api.ErrSize} {
		if met[e] < 20 {
			t.Error(met)
		}
	}
}

// P14.1 and P14.2: several graphs, as they fall.
func TestPickedDocs(t *testing.T) {
	r := rand.New(rand.NewSource(16))
	pick := sketch.Pick(r.Intn)
	for range 2000 {
		n := r.Intn(6)
		var l []graph.Graph
		var want string
		for range n {
			l = append(l, dressed(r, pick.Graph(1+r.Intn(9))))
			if n > 1 {
				want += "---\n"
			}
			want += told(slowGraph(l[len(l)-1]))
		}
		if got := askedDocs(t, l); got != want {
			t.Fatalf("%v: %q, not %q", l, got, want)
		}
	}
}
