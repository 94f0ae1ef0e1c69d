package audit

import (
	"slices"
	"strconv"
	"strings"

	"stanhope/api"
	"stanhope/graph"
	"stanhope/quote"
	"stanhope/style"
)

// pair is a node of each of two graphs. It is small, as there may be 4096 times 4096 of them.
type pair [2]int16

// stand is a pair that was met, and the entries, or places, of its nodes from which on it is to be gone on.
type stand struct {
	pair
	x, y int32
}

// tour goes through the pairs of two trimmed graphs, whose entries stand by rising keys.
type tour struct {
	a, b  []graph.Node
	met   map[pair]struct{}
	trail []stand // from the roots to where the tour is; it may be as long as there are pairs
	lines []string
}

// Diff is where two graphs differ.
func Diff(a, b graph.Graph) []string {
	t := tour{a: a.Trim().Nodes, b: b.Trim().Nodes, met: make(map[pair]struct{})}
	if len(t.a) == 0 || len(t.b) == 0 {
		return nil
	}
	t.meet(pair{})
	for len(t.trail) > 0 && len(t.lines) < api.MaxSteps {
		if p, ok := t.next(); ok {
			t.meet(p)
		} else {
			t.trail = t.trail[:len(t.trail)-1]
		}
	}
	return t.lines
}

// meet goes on to a pair, if it wasn't met.
func (t *tour) meet(p pair) {
	if _, met := t.met[p]; met {
		return
	}
	t.met[p] = struct{}{}
	t.trail = append(t.trail, stand{pair: p})
	if x, y := t.a[p[0]], t.b[p[1]]; !alike(x, y) {
		t.lines = append(t.lines, t.way()+": "+word(x)+" | "+word(y))
	}
}

// next is the next pair that belongs to the last one of the trail.
func (t *tour) next() (pair, bool) {
	at := &t.trail[len(t.trail)-1]
	x, y := t.a[at.pair[0]], t.b[at.pair[1]]
	if x.Kind != y.Kind {
		return pair{}, false
	}
	for int(at.x) < len(x.Kids) && int(at.y) < len(y.Kids) {
		order := 0
		if x.Kind == graph.Map {
			order = strings.Compare(x.Keys[at.x], y.Keys[at.y])
		}
		p := pair{int16(x.Kids[at.x]), int16(y.Kids[at.y])}
		if order <= 0 {
			at.x++
		}
		if order >= 0 {
			at.y++
		}
		if order == 0 {
			return p, true
		}
	}
	return pair{}, false
}

// way is the way to the last pair of the trail.
func (t *tour) way() string {
	last := len(t.trail) - 1
	if last == 0 {
		return "/"
	}
	var b strings.Builder
	for _, at := range t.trail[:last] {
		b.WriteByte('/')
		// It is gone on behind the step that was taken.
		if n, step := t.a[at.pair[0]], int(at.x)-1; n.Kind == graph.Map {
			b.WriteString(style.Key(n.Keys[step]))
		} else {
			b.WriteString(strconv.Itoa(step))
		}
	}
	return b.String()
}

// alike says whether two nodes of trimmed graphs look alike.
func alike(x, y graph.Node) bool {
	return x.Kind == y.Kind && x.Tag == y.Tag && x.Text == y.Text &&
		len(x.Kids) == len(y.Kids) && slices.Equal(x.Keys, y.Keys)
}

// word is a node's word.
func word(n graph.Node) string {
	switch n.Kind {
	case graph.Seq:
		return "[" + n.Tag + " " + strconv.Itoa(len(n.Kids)) + "]"
	case graph.Map:
		var b strings.Builder
		b.WriteString("{" + n.Tag)
		for _, k := range n.Keys {
			b.WriteString(" " + style.Key(k))
		}
		b.WriteByte('}')
		return b.String()
	}
	return n.Tag + " " + quote.Double(n.Text)
}
