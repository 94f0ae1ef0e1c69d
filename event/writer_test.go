package event_test

import (
	"math/rand"
	"slices"
	"strings"
	"testing"

	"stanhope/api"
	"stanhope/event"
	"stanhope/short"
	"stanhope/text"
)

// writer writes documents by the grammar, and with them the events that they are.
type writer struct {
	*rand.Rand
	strings.Builder
	events  []event.Event
	depth   int
	literal bool // whether the lines written last are a Literal's, so that no blank line may follow
	plain   bool // whether no Literal is written
}

func (w *writer) some(n int) string { return blanks(w.Intn(n)) }

// row ends the row, and begins the next one at an indentation.
func (w *writer) row(n int) {
	if w.Len() > 0 {
		w.WriteString("\n")
	}
	for !w.literal && w.Intn(6) == 0 {
		w.WriteString(w.some(4))
		if w.Intn(2) == 0 {
			w.WriteString("# - a: [")
		}
		w.WriteString("\n")
	}
	w.literal = false
	w.WriteString(blanks(n))
}

func (w *writer) tell(e event.Event) { w.events = append(w.events, e) }

// node writes a node below an indentation, behind the end of a row.
func (w *writer) node(p int, e event.Event) {
	if w.Intn(4) == 0 || w.depth > 5 {
		e.Kind, e.Plain = event.Scalar, true
		w.tell(e)
		return
	}
	n := p + 1 + w.Intn(3)
	w.row(n)
	w.block(n, p, e)
}

// block writes a block in a column.
func (w *writer) block(c, p int, e event.Event) {
	switch w.Intn(3) {
	case 0:
		w.list(event.Seq, c, e)
	case 1:
		w.list(event.Map, c, e)
	default:
		if e.Anchor+e.Tag != "" {
			w.list(event.Seq+w.Intn(2), c, e)
		} else {
			w.value(p)
		}
	}
}

// list writes a Seq or a Map in a column.
func (w *writer) list(kind, c int, e event.Event) {
	w.depth++
	if e.Anchor+e.Tag == "" {
		e.At = w.Len()
	}
	e.Kind = kind
	w.tell(e)
	for i := range 1 + w.Intn(3) {
		if i > 0 {
			w.row(c)
		}
		if kind == event.Seq {
			w.item(c)
		} else {
			w.entry(c)
		}
	}
	w.tell(event.Event{Kind: event.End, At: e.At})
	w.depth--
}

func (w *writer) item(c int) {
	from := w.Len()
	w.WriteString("-")
	n := 1 + w.Intn(3)
	switch w.Intn(4) {
	case 0:
		w.end()
		w.node(c, event.Event{At: from})
	case 1:
		if w.depth < 6 {
			w.WriteString(blanks(n))
			w.list(event.Seq+w.Intn(2), c+1+n, event.Event{})
			return
		}
		fallthrough
	default:
		w.WriteString(blanks(n))
		w.value(c)
	}
}

func (w *writer) entry(c int) {
	from := w.key()
	if w.Intn(3) == 0 {
		w.end()
		w.node(c, event.Event{At: from})
	} else {
		w.WriteString(" " + w.some(3))
		w.value(c)
	}
}

// key writes a key and its Colon, and answers where it stands.
func (w *writer) key() int {
	from := w.Len()
	k := []string{"a", "b c", "-d", "é", "f:g"}[w.Intn(5)]
	w.tell(event.Event{Kind: event.Key, At: from, Text: k})
	switch w.Intn(3) {
	case 0:
		k = "'" + k + "'"
	case 1:
		k = "\"" + k + "\""
	}
	w.WriteString(k + w.some(2) + ":")
	return from
}

// end writes what may stand at a row's end.
func (w *writer) end() {
	w.WriteString(w.some(2))
	if w.Intn(8) == 0 {
		w.WriteString(" # a: 'b")
	}
}

// names writes an Anchor and a Tag, or one of them, or none.
func (w *writer) names() event.Event {
	signs := []string{"", "", "", "&", "!", "&!", "!&"}[w.Intn(7)]
	if signs == "" {
		return event.Event{}
	}
	e := event.Event{At: w.Len()}
	for _, c := range signs {
		name := []string{"x", "y_1", a(32)}[w.Intn(3)]
		if c == '&' {
			e.Anchor = name
		} else {
			e.Tag = "!" + name
		}
		w.WriteString(string(c) + name + " " + w.some(2))
	}
	return e
}

// value writes a value to the row's end, with the rows below it.
func (w *writer) value(p int) {
	e := w.names()
	switch n := w.Intn(6); {
	case n == 0 && e.Anchor+e.Tag != "":
		w.end()
		w.node(p, e)
	case n == 1 && !w.plain:
		w.raw(max(p, 0), e)
	default:
		w.content(e)
		w.end()
	}
}

// scalar tells a scalar that stands from here on, and writes it.
func (w *writer) scalar(e event.Event, written, content string, plain bool) {
	if e.Anchor+e.Tag == "" {
		e.At = w.Len()
	}
	e.Kind, e.Text, e.Plain = event.Scalar, content, plain
	w.tell(e)
	w.WriteString(written)
}

// content writes what stands on one row, behind an Anchor and a Tag.
func (w *writer) content(e event.Event) {
	n := w.Intn(8)
	if w.depth > 8 {
		n = w.Intn(4)
	}
	switch n {
	case 0:
		if e.Anchor+e.Tag == "" {
			w.tell(event.Event{Kind: event.Alias, At: w.Len(), Text: "x"})
			w.WriteString("*x")
			return
		}
		fallthrough
	case 1:
		w.scalar(e, "b c", "b c", true)
	case 2:
		w.scalar(e, "'it''s, [#'", "it's, [#", false)
	case 3, 4:
		w.scalar(e, `"\x41: -"`, "A: -", false)
	default:
		w.flow(e, event.Seq+n%2)
	}
}

// flow writes a flow.
func (w *writer) flow(e event.Event, kind int) {
	w.depth++
	if e.Anchor+e.Tag == "" {
		e.At = w.Len()
	}
	e.Kind = kind
	w.tell(e)
	signs := map[int]string{event.Seq: "[]", event.Map: "{}"}[kind]
	w.WriteString(signs[:1])
	n := w.Intn(4)
	for i := range n {
		w.WriteString(w.some(2))
		if kind == event.Seq {
			w.content(w.names())
		} else if from := w.key(); w.Intn(3) == 0 {
			w.tell(event.Event{Kind: event.Scalar, At: from, Plain: true})
		} else {
			w.WriteString(" ")
			w.content(w.names())
		}
		w.WriteString(w.some(2))
		if i < n-1 || w.Intn(3) == 0 {
			w.WriteString(",")
		}
	}
	w.WriteString(w.some(2) + signs[1:])
	w.tell(event.Event{Kind: event.End, At: e.At})
	w.depth--
}

// raw writes a block literal around a column.
func (w *writer) raw(p int, e event.Event) {
	n := 1 + w.Intn(3)
	head, first := "|", "a: [b"
	if w.Intn(2) == 0 {
		head, first = head+string("0123"[n]), "  - 'c"
	}
	content := first + []string{"", "\nd", "\n\n  # e"}[w.Intn(3)]
	rows := strings.Split(content, "\n")
	switch w.Intn(3) {
	case 0:
		content += "\n"
	case 1:
		head += "-"
	case 2:
		head, content, rows = head+"+", content+"\n\n", append(rows, "")
	}
	w.scalar(e, head, content, false)
	w.end()
	for _, r := range rows {
		w.WriteString("\n")
		if r != "" {
			w.WriteString(blanks(p+n) + r)
		}
	}
	w.literal = true
}

// docs writes some documents, and answers their events.
func (w *writer) docs() [][]event.Event {
	var docs [][]event.Event
	for i := range 1 + w.Intn(3) {
		w.events = nil
		switch {
		case i > 0:
			w.row(0)
			fallthrough
		case w.Intn(3) == 0:
			w.literal = false
			w.WriteString("---")
			w.node(-1, event.Event{At: w.Len()})
		default:
			n := w.Intn(3)
			w.row(n)
			w.block(n, -1, event.Event{})
		}
		docs = append(docs, w.events)
	}
	if w.literal || w.Intn(2) == 0 {
		w.WriteString("\n")
	}
	return docs
}

// P8.1: documents that are written by the grammar are what was written.
func TestWritten(t *testing.T) {
	w := writer{Rand: rand.New(rand.NewSource(8))}
	for range 20000 {
		w.Reset()
		w.literal = false
		want := w.docs()
		s := w.String()
		if got := asked(s); got != told(want, api.Fault{}) {
			t.Fatalf("%q:\n%s, not\n%s", s, got, told(want, api.Fault{}))
		}
		same(t, s)
	}
}

// P8.1: documents that were written by the grammar and then spoiled, held against the slow reading.
func TestSpoiled(t *testing.T) {
	w := writer{Rand: rand.New(rand.NewSource(9))}
	good := 0
	for range 40000 {
		w.Reset()
		w.literal = false
		w.docs()
		s := w.String()
		if s == "" {
			continue
		}
		from := w.Intn(len(s))
		to := min(len(s), from+w.Intn(3))
		in := []string{"", " ", "  ", "\n", "- ", "a: ", ":", "&x ", "!t ", ",", "[", "}", "'", "#", "*y", "|", "\n---\n"}[w.Intn(17)]
		if same(t, s[:from]+in+s[to:]) {
			good++
		}
	}
	if good < 1000 || good > 39000 {
		t.Errorf("%d may be", good)
	}
}

// anew is a text with more lines between its lines and more blanks ahead of
// these, and how a place in it is to be found.
func anew(r *rand.Rand, s string) (string, func(int) int) {
	more := 0
	if !slices.ContainsFunc(text.Lines(s), func(l text.Line) bool { return l.Is() == text.Marker }) {
		more = r.Intn(4)
	}
	var b strings.Builder
	var starts [][2]int // of each line where it began and where it begins
	n := 0
	for _, row := range strings.SplitAfter(s, "\n") {
		for r.Intn(2) == 0 {
			b.WriteString([]string{"\n", "   \n", "# - a\n", "     #'b\n"}[r.Intn(4)])
		}
		b.WriteString(blanks(more))
		starts = append(starts, [2]int{n, b.Len()})
		b.WriteString(row)
		n += len(row)
	}
	return b.String(), func(at int) int {
		for _, x := range slices.Backward(starts) {
			if x[0] <= at {
				return at - x[0] + x[1]
			}
		}
		panic(at)
	}
}

// alike holds a text against itself laid anew.
func alike(t *testing.T, r *rand.Rand, s string) {
	t.Helper()
	more, place := anew(r, s)
	want, f := event.Docs(s)
	for _, d := range want {
		for i := range d {
			d[i].At = place(d[i].At)
		}
	}
	if f.Bad() {
		f.At = place(f.At)
	}
	if got := asked(more); got != told(want, f) {
		t.Fatalf("%q as %q:\n%s, not\n%s", s, more, got, told(want, f))
	}
}

// P8.3: blank lines, remarks and more blanks make no difference but to places.
func TestAnew(t *testing.T) {
	w := writer{Rand: rand.New(rand.NewSource(10)), plain: true}
	for range 10000 {
		w.Reset()
		w.literal = false
		w.docs()
		alike(t, w.Rand, w.String())
	}
	for s := range short.Texts(5, "- ", "a: ", "a:\n", "b", "\n", "  ", "---\n", "&x\n", "[") {
		alike(t, w.Rand, s)
	}
}
