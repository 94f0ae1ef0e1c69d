package load_test

import (
	"slices"
	"strings"
	"testing"

	"stanhope/api"
	"stanhope/event"
	"stanhope/graph"
	"stanhope/load"
	"stanhope/resolve"
	"stanhope/short"
)

// slow is a document's slow reading: each thing is looked for anew among its events.
type slow []event.Event

// begins says whether an event is a node's.
func begins(e event.Event) bool {
	return e.Kind == event.Scalar || e.Kind == event.Seq || e.Kind == event.Map
}

// number is the number of the node of the event i.
func (l slow) number(i int) int {
	n := 0
	for _, e := range l[:i] {
		if begins(e) {
			n++
		}
	}
	return n
}

// within are the numbers of the events that stand in the Seq or Map i itself, without its End.
func (l slow) within(i int) []int {
	var in []int
	depth := 0
	for j := i + 1; j < len(l); j++ {
		if l[j].Kind == event.End {
			depth--
		}
		if depth < 0 {
			return in
		}
		if depth == 0 && l[j].Kind != event.End {
			in = append(in, j)
		}
		if l[j].Kind == event.Seq || l[j].Kind == event.Map {
			depth++
		}
	}
	return in
}

// named is the number of the event that an Alias i tells; -1, if there is none.
func (l slow) named(i int) int {
	for j := i - 1; j >= 0; j-- {
		if begins(l[j]) && l[j].Anchor == l[i].Text {
			return j
		}
	}
	return -1
}

// twice says whether the Key i is one that its Map has ahead of it.
func (l slow) twice(i int) bool {
	for m, e := range l[:i] {
		if e.Kind != event.Map {
			continue
		}
		in := l.within(m)
		at := slices.Index(in, i)
		for _, j := range in[:max(at, 0)] {
			if l[j].Kind == event.Key && l[j].Text == l[i].Text {
				return true
			}
		}
	}
	return false
}

// wrong is what is wrong with the event i.
func (l slow) wrong(i int) api.Errno {
	switch {
	case begins(l[i]) && l.number(i) == 4096:
		return api.ErrNodes
	case l[i].Kind == event.Alias && l.named(i) < 0:
		return api.ErrAnchor
	case l[i].Kind == event.Key && l.twice(i):
		return api.ErrTwice
	}
	return api.OK
}

// node is the node of the event i.
func (l slow) node(i int) graph.Node {
	e := l[i]
	n := graph.Node{Kind: map[int]graph.Kind{event.Scalar: graph.Scalar, event.Seq: graph.Seq, event.Map: graph.Map}[e.Kind], Tag: e.Tag, Text: e.Text}
	if e.Tag == "" {
		n.Tag = map[int]string{event.Scalar: "str", event.Seq: "seq", event.Map: "map"}[e.Kind]
		if e.Plain {
			n.Tag, n.Text = resolve.Of(e.Text)
		}
	}
	if e.Kind == event.Scalar {
		return n
	}
	for _, j := range l.within(i) {
		switch l[j].Kind {
		case event.Key:
			n.Keys = append(n.Keys, l[j].Text)
		case event.Alias:
			n.Kids = append(n.Kids, l.number(l.named(j)))
		default:
			n.Kids = append(n.Kids, l.number(j))
		}
	}
	return n
}

// slowDocs is Docs, read in another way.
func slowDocs(s string) ([]load.Doc, api.Fault) {
	all, f := event.Docs(s)
	if f.Bad() {
		return nil, f
	}
	var docs []load.Doc
	for _, events := range all {
		l := slow(events)
		var d load.Doc
		for i, e := range l {
			if errno := l.wrong(i); errno != api.OK {
				return nil, api.Fault{Errno: errno, At: e.At}
			}
		}
		for i, e := range l {
			if begins(e) {
				d.Nodes, d.At = append(d.Nodes, l.node(i)), append(d.At, e.At)
			}
		}
		docs = append(docs, d)
	}
	return docs, api.Fault{}
}

// same holds what Docs says of a text against the slow reading, and One against Docs; it answers what is wrong.
func same(t *testing.T, s string) api.Errno {
	t.Helper()
	docs, f := load.Docs(s)
	want, g := slowDocs(s)
	if got, w := told(docs, f), told(want, g); got != w {
		t.Fatalf("%.200q: %.300s, not %.300s", s, got, w)
	}
	for _, d := range docs {
		whole(t, s, d)
	}
	one := told(docs, f)
	switch {
	case !f.Bad() && len(docs) == 0:
		one = wrong(api.ErrNone, 0)
	case len(docs) > 1:
		one = wrong(api.ErrMany, docs[1].At[0])
	}
	if got := askedOne(s); got != one {
		t.Fatalf("%.200q: One %.300s, not %.300s", s, got, one)
	}
	return f.Errno
}

// shut is a text with its open flows shut.
func shut(s string) string {
	var ends string
	for i := range len(s) {
		switch s[i] {
		case '[', '{':
			ends = string(s[i]+2) + ends
		case ']', '}':
			ends = strings.TrimPrefix(ends, s[i:i+1])
		}
	}
	return s + ends
}

// P12.1 and P12.2: every short text of these parts behind a head, held against the slow reading.
func TestShort(t *testing.T) {
	sets := []struct {
		head                string
		n                   int
		good, anchor, twice int // how many may be, have an alias too many, and have a key twice, at least
		parts               []string
	}{
		{"", 5, 1000, 500, 0, []string{"- ", "-\n", "- *x\n", "- &x ", "&x ", "*y", "\n", "  "}},
		{"", 5, 2000, 0, 500, []string{"a: ", "a:\n", "b:\n", "1", "\n", "  ", "- "}},
		{"", 5, 1000, 200, 100, []string{"a: ", "b: ", "&x ", "&x\n", "*x", "\n", " "}},
		{"", 5, 1000, 100, 0, []string{"---\n", "---", "\n", "&x ", "*x", "a", "# b"}},
		{"", 4, 1000, 10, 10, []string{"!t ", "&x ", "null", "'", "~", "5", "|\n", " ", "a: ", "*x", "\n"}},
		{"[", 5, 3000, 5000, 0, []string{"[", "],", "&x [", "&x a,", "*x,", "*y,", "&y !t [*x,"}},
		{"{", 5, 1000, 1000, 4000, []string{"a:,", "b: *x,", "a: {", "b: &x {", "},", "c: &x 1,", "'c': *x,"}},
		{"&x [", 5, 2000, 5000, 5000, []string{"*x,", "{a: *x},", "{b: &y [*x], a: *y},", "&x [*y],", "&y {a: *x},", "{a: , 'a': *y},", "[*y, {b: *x}],"}},
	}
	for i, set := range sets {
		met := map[api.Errno]int{}
		for s := range short.Texts(set.n, set.parts...) {
			met[same(t, shut(set.head+s))]++
		}
		if met[api.OK] < set.good || met[api.ErrAnchor] < set.anchor || met[api.ErrTwice] < set.twice {
			t.Errorf("set %d: only %v", i, met)
		}
	}
}

// R1: every byte, and long texts of each kind, within moments.
func TestEnds(t *testing.T) {
	for b := range 256 {
		for _, s := range []string{"%", "- %", "&a %\n", "[&a b, *%]", "[&% b, *a]", "{a: , %: }", "!% a", "'%': 1\n\"%\": 2", "---\n%"} {
			same(t, strings.ReplaceAll(s, "%", string([]byte{byte(b)})))
		}
	}
	for _, p := range []string{"-\n", "- &x\n", "- *x\n", "- a: b\n", "a:\n", "---\n", "\n", "[],", "*x,", "&x a,", "a:,", "{a: ", "[", "- ", "a", "|\n"} {
		for _, head := range []string{"", "[", "{", "- &x\n", "&x ["} {
			s := (head + strings.Repeat(p, 65536/len(p)+1))[:65536]
			for _, foot := range []string{"", "]", "}"} {
				docs, f := load.Docs(s[:65536-len(foot)] + foot)
				if len(docs) > 0 && f.Bad() || f.Bad() && (f.At < 0 || f.At > 65536) {
					t.Errorf("%q, %q, %q: %v at %d", head, p, foot, f, f.At)
				}
				for _, d := range docs {
					whole(t, s, d)
				}
			}
		}
	}
}

// P12.1: mappings with as many keys as stand in a text, all apart, or the last one that of another.
func TestManyKeys(t *testing.T) {
	var b strings.Builder
	b.WriteString("&x {")
	for i := range 5000 {
		b.WriteString("k" + strings.Repeat("l", i%5) + string(rune('a'+i/5%26)) + string(rune('a'+i/130%26)) + string(rune('a'+i/3380)) + ": *x,")
	}
	s := b.String()
	if d, f := load.One(s + "}"); f.Bad() || len(d.Nodes) != 1 || len(d.Nodes[0].Keys) != 5000 {
		t.Error(f, f.At, len(s))
	}
	if got, want := asked(s+"kaaa: }"), wrong(api.ErrTwice, len(s)); got != want {
		t.Errorf("%s, not %s", got, want)
	}
}
