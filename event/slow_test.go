package event_test

import (
	"slices"
	"strings"
	"testing"

	"stanhope/api"
	"stanhope/event"
	"stanhope/literal"
	"stanhope/short"
	"stanhope/text"
	"stanhope/token"
)

// slow is a document's slow reading: row by row and token by token, with the
// open blocks in a list, and what the next row has to be in wait and below.
type slow struct {
	base   int // the place of the document's lines in the text
	events []event.Event
	blocks []open
	flows  []open
	wait   *event.Event // the node that is still to come, if it stands below below
	below  int
}

type open struct{ kind, column, at int }

func at(e api.Errno, n int) api.Fault { return api.Fault{Errno: e, At: n} }

// slowDocs is Docs, read in another way.
func slowDocs(s string) ([][]event.Event, api.Fault) {
	if f := text.Check(s); f.Bad() {
		return nil, f
	}
	type part struct{ marker, from, to int }
	parts := []part{{-1, 0, 0}}
	full := false
	n := 0
	for _, row := range strings.SplitAfter(s, "\n") {
		bare := strings.TrimSuffix(row, "\n")
		if bare == "---" {
			parts = append(parts, part{n, n + 3, 0})
		} else if b := strings.Trim(bare, " "); len(parts) == 1 && b != "" && b[0] != '#' {
			full = true
		}
		n += len(row)
		parts[len(parts)-1].to = n
	}
	if !full {
		parts = parts[1:]
	}
	if len(parts) > 16 {
		return nil, at(api.ErrMany, parts[16].marker)
	}
	var docs [][]event.Event
	for _, p := range parts {
		d := slow{base: p.from, wait: &event.Event{At: p.from}, below: -1}
		if f := d.all(s[p.from:p.to]); f.Bad() {
			return nil, f
		}
		docs = append(docs, d.events)
	}
	return docs, api.Fault{}
}

func (d *slow) all(s string) api.Fault {
	lines := text.Lines(s)
	for i := 0; i < len(lines); {
		l := lines[i]
		i++
		if l.Is() != text.Row {
			continue
		}
		from := d.base + l.From()
		if d.wait != nil && l.Indent <= d.below {
			d.nothing()
		}
		if d.wait == nil {
			for len(d.blocks) > 0 && d.blocks[len(d.blocks)-1].column > l.Indent {
				d.shut(&d.blocks)
			}
			if len(d.blocks) == 0 || d.blocks[len(d.blocks)-1].column < l.Indent {
				return at(api.ErrIndent, from)
			}
		}
		tokens, f := token.Row(l.Text, from)
		if f.Bad() {
			return f
		}
		var more int
		more, f = d.row(tokens, d.base+l.At, lines[i:])
		if f.Bad() {
			return f
		}
		i += more
	}
	if d.wait != nil {
		d.nothing()
	}
	for len(d.blocks) > 0 {
		d.shut(&d.blocks)
	}
	return api.Fault{}
}

// nothing is what waits, which turns out empty.
func (d *slow) nothing() {
	e := *d.wait
	e.Kind, e.Plain = event.Scalar, true
	d.events = append(d.events, e)
	d.wait = nil
}

func (d *slow) shut(l *[]open) {
	last := (*l)[len(*l)-1]
	*l = (*l)[:len(*l)-1]
	d.events = append(d.events, event.Event{Kind: event.End, At: last.at})
}

// begins opens a block or a flow; e may be without a place.
func (d *slow) begins(l *[]open, kind, column, first int, e event.Event) api.Fault {
	if e.Anchor+e.Tag == "" {
		e.At = first
	}
	if len(d.blocks)+len(d.flows) > 63 {
		return at(api.ErrDeep, e.At)
	}
	e.Kind = kind
	*l = append(*l, open{kind, column, e.At})
	d.events = append(d.events, e)
	return api.Fault{}
}

func key(t []token.Token) bool {
	return len(t) >= 2 && (t[0].Kind == token.Plain || t[0].Kind == token.Quoted) && t[1].Kind == token.Colon
}

// row reads a row's tokens, and answers how many lines behind it a Literal has.
func (d *slow) row(t []token.Token, line int, behind []text.Line) (int, api.Fault) {
	for first := true; ; first = false {
		kind := 0
		switch {
		case t[0].Kind == token.Dash:
			kind = event.Seq
		case key(t) && (first || d.blocks[len(d.blocks)-1].kind == event.Seq):
			kind = event.Map
		}
		if !first && kind == 0 {
			return d.value(t, d.below, behind)
		}
		if d.wait == nil && d.blocks[len(d.blocks)-1].kind != kind {
			return 0, at(api.ErrSyntax, t[0].At)
		}
		if kind == 0 && d.wait.Anchor+d.wait.Tag != "" {
			return 0, at(api.ErrSyntax, t[0].At)
		}
		if kind == 0 {
			d.wait = nil
			return d.value(t, d.below, behind)
		}
		if d.wait != nil {
			if f := d.begins(&d.blocks, kind, t[0].At-line, t[0].At, *d.wait); f.Bad() {
				return 0, f
			}
		}
		d.wait = &event.Event{At: t[0].At}
		d.below = d.blocks[len(d.blocks)-1].column
		if kind == event.Map {
			d.events = append(d.events, event.Event{Kind: event.Key, At: t[0].At, Text: t[0].Text})
			t = t[1:]
		}
		t = t[1:]
		if len(t) == 0 {
			return 0, api.Fault{}
		}
		if kind == event.Map {
			return d.value(t, d.below, behind)
		}
	}
}

// names are the Anchor and the Tag ahead, and what stands behind.
func names(t []token.Token) (event.Event, []token.Token) {
	var e event.Event
	kinds := [2]int{}
	for i := 0; i < 2 && i < len(t); i++ {
		kinds[i] = t[i].Kind
	}
	n := 0
	switch kinds {
	case [2]int{token.Anchor, token.Tag}:
		e, n = event.Event{At: t[0].At, Anchor: t[0].Text, Tag: t[1].Text}, 2
	case [2]int{token.Tag, token.Anchor}:
		e, n = event.Event{At: t[0].At, Anchor: t[1].Text, Tag: t[0].Text}, 2
	default:
		switch kinds[0] {
		case token.Anchor:
			e, n = event.Event{At: t[0].At, Anchor: t[0].Text}, 1
		case token.Tag:
			e, n = event.Event{At: t[0].At, Tag: t[0].Text}, 1
		}
	}
	return e, t[n:]
}

func (d *slow) value(t []token.Token, around int, behind []text.Line) (int, api.Fault) {
	d.wait = nil
	e, rest := names(t)
	if len(rest) == 0 {
		d.wait, d.below = &e, around
		return 0, api.Fault{}
	}
	if rest[0].Kind != token.Literal {
		return 0, d.line(t)
	}
	if len(rest) > 1 {
		return 0, at(api.ErrSyntax, rest[1].At)
	}
	h, _, _ := literal.ReadHeader(rest[0].Text, 0)
	content, next := literal.Read(behind, 0, around, h)
	if len(content) > 1024 {
		return 0, at(api.ErrScalar, rest[0].At)
	}
	if e.Anchor+e.Tag == "" {
		e.At = rest[0].At
	}
	e.Kind, e.Text = event.Scalar, content
	d.events = append(d.events, e)
	return next, api.Fault{}
}

// line reads a value that ends on its row: token by token, with what may come
// next as a row of signs (v a value, k a key, ',' a Comma, c a close).
func (d *slow) line(t []token.Token) api.Fault {
	may := "v"
	for len(t) > 0 {
		x := t[0]
		closes := x.Kind == token.CloseSeq || x.Kind == token.CloseMap
		can := func(c string) bool { return strings.Contains(may, c) }
		switch {
		case closes && can("c"):
			d.shut(&d.flows)
			t = t[1:]
			may = d.behind()
		case x.Kind == token.Comma && can(","):
			t = t[1:]
			may = "vc"
			if d.flows[len(d.flows)-1].kind == event.Map {
				may = "kc"
			}
		case x.Scalar() && can("k"):
			if t[1].Kind != token.Colon {
				return at(api.ErrSyntax, t[1].At)
			}
			d.events = append(d.events, event.Event{Kind: event.Key, At: x.At, Text: x.Text})
			t = t[2:]
			may = "v"
			if k := t[0].Kind; k == token.Comma || k == token.CloseMap {
				d.events = append(d.events, event.Event{Kind: event.Scalar, At: x.At, Plain: true})
				may = d.behind()
			}
		case can("v"):
			e, rest := names(t)
			f := d.part(rest[0], e)
			if f.Bad() {
				return f
			}
			t = rest[1:]
			switch rest[0].Kind {
			case token.OpenSeq:
				may = "vc"
			case token.OpenMap:
				may = "kc"
			default:
				may = d.behind()
			}
		default:
			return at(api.ErrSyntax, x.At)
		}
	}
	return api.Fault{}
}

// behind is what may come behind a whole value of a row.
func (d *slow) behind() string {
	if len(d.flows) > 0 {
		return ",c"
	}
	return ""
}

func (d *slow) part(x token.Token, e event.Event) api.Fault {
	named := e.Anchor+e.Tag != ""
	switch x.Kind {
	case token.Alias:
		if named {
			return at(api.ErrSyntax, x.At)
		}
		d.events = append(d.events, event.Event{Kind: event.Alias, At: x.At, Text: x.Text})
	case token.Plain, token.Quoted:
		if !named {
			e.At = x.At
		}
		e.Kind, e.Text, e.Plain = event.Scalar, x.Text, x.Kind == token.Plain
		d.events = append(d.events, e)
	case token.OpenSeq:
		return d.begins(&d.flows, event.Seq, 0, x.At, e)
	case token.OpenMap:
		return d.begins(&d.flows, event.Map, 0, x.At, e)
	default:
		return at(api.ErrSyntax, x.At)
	}
	return api.Fault{}
}

// whole checks P8.2, and that each event has no more than its kind has, and
// answers how many are open at most, and where the last of the deepest begins.
func whole(t *testing.T, s string, l []event.Event) (int, int) {
	t.Helper()
	var stack []open // kind, how many Keys and nodes, place
	deepest, last := 0, 0
	for i, e := range l {
		if i > 0 && len(stack) == 0 {
			t.Fatalf("%.60q: more than a node: %d of %d", s, i, len(l))
		}
		if e.At < 0 || e.At > len(s) {
			t.Fatalf("%.60q: %d at %d", s, i, e.At)
		}
		want := event.Event{Kind: e.Kind, At: e.At}
		switch e.Kind {
		case event.Scalar:
			want.Anchor, want.Tag, want.Text, want.Plain = e.Anchor, e.Tag, e.Text, e.Plain
		case event.Alias, event.Key:
			want.Text = e.Text
		case event.Seq, event.Map:
			want.Anchor, want.Tag = e.Anchor, e.Tag
		case event.End:
			last := stack[len(stack)-1]
			if last.at != e.At || last.kind == event.Map && last.column%2 != 0 {
				t.Fatalf("%.60q: %d is no end", s, i)
			}
			stack = stack[:len(stack)-1]
		default:
			t.Fatalf("%.60q: %d is of the kind %d", s, i, e.Kind)
		}
		if e != want {
			t.Fatalf("%.60q: %d is %v, not %v", s, i, e, want)
		}
		if e.Kind == event.End {
			continue
		}
		if len(stack) > 0 {
			in := &stack[len(stack)-1]
			if (e.Kind == event.Key) != (in.kind == event.Map && in.column%2 == 0) {
				t.Fatalf("%.60q: %d stands out of turn", s, i)
			}
			in.column++
		}
		if e.Kind == event.Seq || e.Kind == event.Map {
			stack = append(stack, open{e.Kind, 0, e.At})
			if len(stack) >= deepest {
				deepest, last = len(stack), e.At
			}
		}
	}
	if len(stack) > 0 || len(l) == 0 || deepest > 64 {
		t.Fatalf("%.60q: no node: %s", s, told([][]event.Event{l}, api.Fault{}))
	}
	return deepest, last
}

// same holds what Docs says of a text against the slow reading; it says whether the text may be.
func same(t *testing.T, s string) bool {
	t.Helper()
	docs, f := event.Docs(s)
	want, g := slowDocs(s)
	if f != g || !slices.EqualFunc(docs, want, slices.Equal) {
		t.Fatalf("%.200q: %.300s, not %.300s", s, told(docs, f), told(want, g))
	}
	for _, d := range docs {
		whole(t, s, d)
	}
	return !f.Bad()
}

// P8.1 and P8.2: every short text of these parts, held against the slow reading.
func TestShort(t *testing.T) {
	sets := []struct {
		n, good int
		parts   []string
	}{
		{6, 20000, []string{"- ", "-\n", "a: ", "a:\n", "b", "\n", "  "}},
		{5, 40000, []string{"-", "a", ":", "\n", " ", "&x", "!t", "*y", "|", "#"}},
		{6, 30000, []string{"&x", "!t", " ", "\n", "- ", "a: ", "b"}},
		{6, 20000, []string{"- ", "a: ", "|", "|+", "\n", " ", "b"}},
		{5, 10000, []string{"---\n", "---", "\n", " ", "# c", "a", "- "}},
		{7, 30000, []string{"-\n", "a:\n", "a: b\n", "  ", " ", "&x\n"}},
	}
	for i, set := range sets {
		good := 0
		for s := range short.Texts(set.n, set.parts...) {
			if same(t, s) {
				good++
			}
		}
		if good < set.good {
			t.Errorf("set %d: only %d may be", i, good)
		}
	}
}

// closed is a text with all its open flows closed; false, if a close in it isn't that of the innermost one.
func closed(s string) (string, bool) {
	var ends []byte
	for i := range len(s) {
		switch s[i] {
		case '[', '{':
			ends = append(ends, s[i]+2)
		case ']', '}':
			if len(ends) == 0 || ends[len(ends)-1] != s[i] {
				return "", false
			}
			ends = ends[:len(ends)-1]
		}
	}
	slices.Reverse(ends)
	return s + string(ends), true
}

// P8.1 and P8.2: every short flow of these parts, held against the slow reading.
func TestShortFlows(t *testing.T) {
	good := 0
	for s := range short.Texts(6, "[", "{", "]", "}", ", ", "a: ", "&x ", "*y", "'b'") {
		if s, ok := closed(s); ok && same(t, s) {
			good++
		}
	}
	if good < 1000 {
		t.Errorf("only %d may be", good)
	}
}

// What is answered is anew each time, and no two documents share memory.
func TestAnswersAnew(t *testing.T) {
	s := strings.Repeat("---\n- a\n- b\n", 16)
	want := asked(s)
	one, _ := event.Docs(s)
	for _, d := range one {
		for i := range d {
			d[i] = event.Event{At: -1}
		}
		_ = append(d, event.Event{At: -2})
	}
	two, f := event.Docs(s)
	if got := told(two, f); got != want {
		t.Errorf("%s, not %s", got, want)
	}
	for i, d := range one {
		for _, e := range d {
			if e.At != -1 {
				t.Errorf("document %d has %v", i, e)
			}
		}
	}
}

// R1: every byte, and long texts of each kind, within moments.
func TestEnds(t *testing.T) {
	for b := range 256 {
		for _, s := range []string{"%", "- %", "%\n", "a: %b", "[%]", "&a\n%", "a: |\n  %\n", "%---\n", "---\n%"} {
			same(t, strings.ReplaceAll(s, "%", string([]byte{byte(b)})))
		}
	}
	for _, p := range []string{"-\n", "- |\n", "- |+\n\n", "- a: b\n", "a:\n", "a: &x !y\n", "---\n", "\n", " \n", "#\n", "[],", "- ", "[", "{a: ", " ", "&a ", "&a\n", "a", "|\n"} {
		for _, head := range []string{"", "[", "- ", "|\n", "- |\n\n\n", "a:\n"} {
			s := head + strings.Repeat(p, 65536/len(p)+1)
			same(t, s[:65536])
		}
	}
}
