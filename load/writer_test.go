package load_test

import (
	"math/rand"
	"slices"
	"strconv"
	"strings"
	"testing"

	"stanhope/api"
	"stanhope/graph"
	"stanhope/iso"
	"stanhope/load"
	"stanhope/sketch"
)

// writer writes graphs as documents, each thing in one of its ways, and with them what is to be loaded.
type writer struct {
	*rand.Rand
	strings.Builder
	g      graph.Graph
	left   []int          // of each node how many edges to it aren't written
	holder map[string]int // of each name the node that has it
	number map[int]int    // of each node that is written its number
	want   load.Doc
	raw    bool // whether the row is a literal's, behind which no line is blank or a remark
}

func blanks(n int) string { return strings.Repeat(" ", n) }

func (w *writer) some(n int) string { return blanks(w.Intn(n)) }

// row ends the row, and begins the next one at an indentation.
func (w *writer) row(indent int) {
	w.WriteString("\n")
	for !w.raw && w.Intn(6) == 0 {
		w.WriteString(w.some(4) + []string{"", "#", "# &a *b"}[w.Intn(3)] + "\n")
	}
	w.raw = false
	w.WriteString(blanks(indent))
}

// ways are the ways in which a scalar may be written on its row, without its tag.
func ways(n graph.Node) []string {
	text := strings.ReplaceAll(n.Text, "\n", "\\n")
	if n.Tag == "null" {
		return []string{"null", "~"}
	}
	var l []string
	if n.Tag != "str" && text != "" && text == n.Text {
		l = append(l, text)
	}
	if n.Tag == "str" || strings.HasPrefix(n.Tag, "!") {
		l = append(l, "\""+text+"\"")
		if text == n.Text {
			l = append(l, "'"+text+"'")
		}
		if text == "x y" {
			l = append(l, text)
		}
	}
	return l
}

// scalars are what scalars become in the graphs that are written.
func scalars() []graph.Node {
	l := []graph.Node{sketch.Scalar("null", ""), sketch.Scalar("bool", "true"), sketch.Scalar("bool", "false")}
	for _, s := range []string{"0", "-7", "123456789012345678"} {
		l = append(l, sketch.Scalar("int", s))
	}
	for _, s := range []string{"", "x y", "x\ny\n", "0", "~", "null", "true", "[", "é"} {
		l = append(l, sketch.Str(s), sketch.Scalar("!t", s), sketch.Scalar("!null", s))
	}
	return slices.DeleteFunc(l, func(n graph.Node) bool { return n.Tag != "str" && n.Text == "[" })
}

// begin writes what stands ahead of a node's content, each part behind a blank, and gives the node its
// number; it answers where the content's first part stands, if it is the first.
func (w *writer) begin(n int) int {
	w.number[n] = len(w.number)
	w.want.Nodes = append(w.want.Nodes, graph.Node{})
	w.want.At = append(w.want.At, 0)
	var parts []string
	if w.left[n] > 0 || w.Intn(4) == 0 {
		parts = append(parts, "&"+w.name(n))
	}
	if tag := w.g.Nodes[n].Tag; strings.HasPrefix(tag, "!") {
		parts = append(parts, tag)
	}
	if w.Intn(2) == 0 {
		slices.Reverse(parts)
	}
	at := w.Len() + 1
	for _, p := range parts {
		w.WriteString(" " + p)
	}
	if len(parts) == 0 {
		return -1
	}
	return at
}

// name is a name for a node: any one whose holder isn't led to any more.
func (w *writer) name(n int) string {
	for i := w.Intn(3); ; i++ {
		name := "a" + strconv.Itoa(i)
		if h, ok := w.holder[name]; !ok || w.left[h] == 0 {
			w.holder[name] = n
			return name
		}
	}
}

// alias writes an alias of a node, behind a blank.
func (w *writer) alias(n int) {
	for name, h := range w.holder {
		if h == n {
			w.WriteString(" *" + name)
			return
		}
	}
	panic("no name")
}

// kid writes a node behind a Dash, a key or the beginning of the text, in a row or in a flow, and answers
// its number. It stands below the column p; head is where it stands, if it is empty.
func (w *writer) kid(n, p, head int, flow bool) int {
	w.left[n]--
	if i, ok := w.number[n]; ok {
		w.alias(n)
		return i
	}
	if !flow && w.Intn(5) == 0 {
		w.row(p + 1 + w.Intn(3))
	}
	at := w.begin(n)
	i, node := w.number[n], w.g.Nodes[n]
	out := graph.Node{Kind: node.Kind, Tag: node.Tag, Text: node.Text}
	switch {
	case node.Kind == graph.Scalar:
		w.want.At[i] = w.scalar(node, at, p, head, flow)
	case flow || len(node.Kids) == 0 || w.Intn(4) == 0:
		w.want.At[i] = w.place(at)
		w.flow(node, &out)
	default:
		w.want.At[i] = w.block(node, &out, p, at)
	}
	w.want.Nodes[i] = out
	return i
}

// place writes a blank, and answers the place of a node that begins here, if nothing of it stands ahead.
func (w *writer) place(at int) int {
	w.WriteString(" ")
	if at < 0 {
		at = w.Len()
	}
	return at
}

// scalar writes a scalar behind its names, the first of which stands at a place, and answers its place.
func (w *writer) scalar(n graph.Node, at, p, head int, flow bool) int {
	empty := n.Text == "" && (n.Tag == "null" || strings.HasPrefix(n.Tag, "!"))
	fresh := strings.TrimRight(w.String(), " ")
	switch {
	case empty && at >= 0 && !flow && w.Intn(2) == 0:
		return at
	case empty && at < 0 && w.Intn(2) == 0 && strings.HasSuffix(fresh, ":"):
		return head
	case !flow && strings.HasSuffix(n.Text, "\n"):
		at = w.place(at)
		w.WriteString("|" + w.some(2) + "\n")
		indent := blanks(max(p, 0) + 1 + w.Intn(3))
		w.WriteString(indent + strings.ReplaceAll(strings.TrimSuffix(n.Text, "\n"), "\n", "\n"+indent))
		w.raw = true
		return at
	}
	at = w.place(at)
	l := ways(n)
	w.WriteString(l[w.Intn(len(l))])
	return at
}

// key writes a key and its Colon, and answers where it stands.
func (w *writer) key(key string, out *graph.Node) int {
	at := w.Len()
	out.Keys = append(out.Keys, key)
	if key == "a" || key == "B" || key == "é" {
		w.WriteString([]string{key, "'" + key + "'"}[w.Intn(2)])
	} else {
		w.WriteString("\"" + key + "\"")
	}
	w.WriteString(w.some(2) + ":")
	return at
}

// flow writes a collection as a flow.
func (w *writer) flow(n graph.Node, out *graph.Node) {
	signs := map[graph.Kind]string{graph.Seq: "[]", graph.Map: "{}"}[n.Kind]
	w.WriteString(signs[:1])
	for i, k := range n.Kids {
		head := 0
		if n.Kind == graph.Map {
			w.WriteString(w.some(2))
			head = w.key(n.Keys[i], out)
		}
		out.Kids = append(out.Kids, w.kid(k, 0, head, true))
		w.WriteString(w.some(2))
		if i < len(n.Kids)-1 || w.Intn(3) == 0 {
			w.WriteString(",")
		}
	}
	w.WriteString(w.some(2) + signs[1:])
}

// block writes a collection as rows below the column p, and answers its place.
func (w *writer) block(n graph.Node, out *graph.Node, p, at int) int {
	c := p + 1 + w.Intn(3)
	s := w.String()
	ahead := s[strings.LastIndexByte(s, '\n')+1:]
	switch {
	case at < 0 && strings.Trim(ahead, " ") == "":
		c = len(ahead)
	case at < 0 && strings.HasSuffix(strings.TrimRight(ahead, " "), "-") && w.Intn(2) == 0:
		w.WriteString(blanks(1 + w.Intn(3)))
		c = w.Len() - strings.LastIndexByte(s, '\n') - 1
	default:
		w.row(c)
	}
	if at < 0 {
		at = w.Len()
	}
	for i, k := range n.Kids {
		if i > 0 {
			w.row(c)
		}
		head := w.Len()
		if n.Kind == graph.Map {
			w.key(n.Keys[i], out)
		} else {
			w.WriteString("-")
		}
		out.Kids = append(out.Kids, w.kid(k, c, head, false))
	}
	return at
}

// write writes a graph's document.
func (w *writer) write(g graph.Graph) load.Doc {
	w.g, w.left = g, g.In()
	w.holder, w.number, w.want = map[string]int{}, map[int]int{}, load.Doc{}
	if w.Len() > 0 || w.Intn(4) == 0 {
		w.raw = false
		w.WriteString("---")
		w.row(0)
	}
	w.kid(g.Root, -1, 0, false)
	w.WriteString("\n")
	return w.want
}

// pickGraph is a graph as it falls, with scalars of all kinds.
func pickGraph(r *rand.Rand) graph.Graph {
	g := sketch.Pick(r.Intn).Graph(1 + r.Intn(20))
	l := scalars()
	for i, n := range g.Nodes {
		if n.Kind == graph.Scalar {
			g.Nodes[i] = l[r.Intn(len(l))]
		}
	}
	return g
}

// P12.1 and P12.2: graphs, written in any way, are loaded as what was written: the same graphs.
func TestWritten(t *testing.T) {
	w := writer{Rand: rand.New(rand.NewSource(12))}
	cyclic, shared := 0, 0
	for range 20000 {
		w.Reset()
		var graphs []graph.Graph
		var want []load.Doc
		for range 1 + w.Intn(3) {
			graphs = append(graphs, pickGraph(w.Rand))
			want = append(want, w.write(graphs[len(graphs)-1]))
		}
		s := w.String()
		docs, f := load.Docs(s)
		if got := told(docs, f); got != told(want, api.Fault{}) {
			t.Fatalf("%q:\n%s, not\n%s", s, got, told(want, api.Fault{}))
		}
		for i, d := range docs {
			if !iso.Same(d.Graph, graphs[i]) {
				t.Fatalf("%q: document %d isn't %v", s, i, graphs[i])
			}
			if d.Cyclic(0) {
				cyclic++
			}
			if slices.Max(d.In()) > 1 {
				shared++
			}
			whole(t, s, d)
		}
	}
	if cyclic < 5000 || shared < 10000 {
		t.Errorf("only %d with a cycle, %d that share", cyclic, shared)
	}
}

// P12.1: what was written and then spoiled, held against the slow reading.
func TestSpoiled(t *testing.T) {
	w := writer{Rand: rand.New(rand.NewSource(13))}
	met := map[api.Errno]int{}
	for range 30000 {
		w.Reset()
		w.write(pickGraph(w.Rand))
		s := w.String()
		from := w.Intn(len(s))
		to := min(len(s), from+w.Intn(3))
		in := []string{"", "a0", "a1", "\"-\": 1, ", "a: ", "*a0", "&a0 ", "&a1", "!t ", ", *a2,", "\n---\n", "'"}[w.Intn(12)]
		met[same(t, s[:from]+in+s[to:])]++
	}
	if met[api.OK] < 1000 || met[api.ErrAnchor] < 500 || met[api.ErrTwice] < 10 {
		t.Error(met)
	}
}
