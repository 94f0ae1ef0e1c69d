package audit_test

import (
	"math/rand"
	"slices"
	"strconv"
	"strings"
	"testing"

	"stanhope/api"
	"stanhope/audit"
	"stanhope/emit"
	"stanhope/load"
	"stanhope/run"
	"stanhope/strew"
)

// script is the text of a type of sources and a lens.
func script(source, lens string) string { return "source: " + source + "\nlens: " + lens + "\n" }

// verdicts are the words of a report's verdicts.
func verdicts(r audit.Report) string {
	words := [...]string{"skipped", "holds", "fails"}
	return words[r.GetPut] + " " + words[r.PutGet] + " " + words[r.CreateGet]
}

// The lens of most rows, a source, and a view of it.
const (
	shows  = "source: {record: {a: any, b?: any}}\nlens: {project: {keep: [a]}}\n"
	source = "b: &x {k: *x}\na: [*x]\n"
	view   = "{a: [y]}"
)

// links are sequences beside one another, the key b leads through them, one within another.
func links(n int) string {
	s := "{a: x, b: {c: [&c0 []"
	for i := range n - 1 {
		s += ", &c" + strconv.Itoa(i+1) + " [*c" + strconv.Itoa(i) + "]"
	}
	return s + "], b: *c" + strconv.Itoa(n-1) + "}}"
}

// items is a sequence of so many of an item.
func items(n int, item string) string {
	return "[" + strings.TrimSuffix(strings.Repeat(item+", ", n), ", ") + "]"
}

// P27.1: lenses, sources and views, and what is known of the laws.
func TestLaws(t *testing.T) {
	deep := func(n int) string { return strings.Repeat("[", n) + strings.Repeat("]", n) }
	shared := "k: " + strings.Replace(items(4095, "*x"), "*x", "&x y", 1)
	for _, c := range []struct{ lens, source, view, from, to, want string }{
		{shows, source, view, "{map a:any b?:any}", "{map a:any}", "holds holds holds"},
		{shows, source, "a: &x [*x]", "{map a:any b?:any}", "{map a:any}", "holds holds holds"},
		{script("str", "id"), "x", "y", "str", "str", "holds holds holds"},
		{script("{list: {union: [str, int]}}", "{filter: [.int]}"), "[a, 1, b]", "[2, 3]", "[seq (str|int)]", "[seq int]", "holds holds holds"},
		{script("{record: {a?: int}}", "{fill: {key: a, value: 3}}"), "{}", "{a: 3}", "{map a?:int}", "{map a:int}", "holds holds holds"},
		{script("str", "{const: {view: 7, default: d}}"), "x", "7", "str", "<int \"7\">", "holds holds holds"},
		// The first step has a fault: of the source, of the view, of both.
		{shows, "", view, "{map a:any b?:any}", "{map a:any}", "skipped skipped holds"},
		{shows, "[", view, "{map a:any b?:any}", "{map a:any}", "skipped skipped holds"},
		{shows, "{b: 1}", view, "{map a:any b?:any}", "{map a:any}", "skipped skipped holds"},
		{shows, "x\n---\n", view, "{map a:any b?:any}", "{map a:any}", "skipped skipped holds"},
		{shows, source, "\xff", "{map a:any b?:any}", "{map a:any}", "holds skipped skipped"},
		{shows, source, "{}", "{map a:any b?:any}", "{map a:any}", "holds skipped skipped"},
		{shows, source, source, "{map a:any b?:any}", "{map a:any}", "holds skipped skipped"},
		{shows, "*x", "*x", "{map a:any b?:any}", "{map a:any}", "skipped skipped skipped"},
		{script("any", "{plunge: k}"), deep(64), "{k: x}", "any", "{map k:any}", "skipped holds holds"},
		{script("any", "{plunge: k}"), items(4095, "x"), "{k: x}", "any", "{map k:any}", "skipped holds holds"},
		{script("{record: {a: any}}", "{hoist: a}"), "{a: x}", deep(64), "{map a:any}", "any", "holds skipped skipped"},
		// A later step passes a limit: what is put back stands too deep, or is too long.
		{shows, links(100), view, "{map a:any b?:any}", "{map a:any}", "skipped skipped holds"},
		{shows, "{a: y, b: " + items(4000, "xxxxxxxxxxxxx") + "}", "a: z", "{map a:any b?:any}", "{map a:any}", "skipped skipped holds"},
		{shows, "{a: " + strings.Repeat("x", 1000) + ", b: " + items(3800, "xxxxxxxxxxxx") + "}", "a: z", "{map a:any b?:any}", "{map a:any}", "skipped holds holds"},
		// What is got of what was put, and created, has too many nodes, as often as they stand; stands too deep; is too long.
		{script("{list: any}", "{compose: [{plunge: k}]}"), "[]", shared, "[seq any]", "{map k:[seq any]}", "holds skipped skipped"},
		{script("any", "{plunge: k}"), "x", "{k: " + items(4000, "xxxxxxxxxxxx") + "}", "any", "{map k:any}", "holds skipped skipped"},
		{script("any", "{plunge: k}"), "x", strings.Replace(links(63), "a: x, b:", "k:", 1), "any", "{map k:any}", "holds skipped skipped"},
	} {
		r, f := audit.Laws(c.lens, c.source, c.view)
		if f != (run.Fault{}) || r.Source != c.from || r.View != c.to || verdicts(r) != c.want {
			t.Errorf("%s of %.100q and %.100q: %+v, part %d, %v at %d", c.lens, c.source, c.view, r, f.Part, f, f.At)
		}
	}
}

// Which steps of the rows above pass a limit: else they would tell nothing of the later ones.
func TestLater(t *testing.T) {
	later := func(s string, f run.Fault) func(string, run.Fault) api.Errno {
		return func(_ string, g run.Fault) api.Errno {
			if f.Bad() || g.Part != run.Result {
				t.Errorf("part %d, %v; part %d, %v", f.Part, f, g.Part, g)
			}
			return g.Errno
		}
	}
	back := func(lens, source string) api.Errno {
		w, f := run.Get(lens, source)
		return later(w, f)(run.Put(lens, w, source))
	}
	shown := func(lens, view string) api.Errno {
		s, f := run.Create(lens, view)
		return later(s, f)(run.Get(lens, s))
	}
	shared := "k: " + strings.Replace(items(4095, "*x"), "*x", "&x y", 1)
	got := []api.Errno{
		back(shows, links(100)),
		back(shows, "{a: y, b: "+items(4000, "xxxxxxxxxxxxx")+"}"),
		shown(script("{list: any}", "{compose: [{plunge: k}]}"), shared),
		shown(script("any", "{plunge: k}"), "{k: "+items(4000, "xxxxxxxxxxxx")+"}"),
		shown(script("any", "{plunge: k}"), strings.Replace(links(63), "a: x, b:", "k:", 1)),
	}
	if want := []api.Errno{api.ErrDeep, api.ErrSize, api.ErrNodes, api.ErrSize, api.ErrDeep}; !slices.Equal(got, want) {
		t.Error(got)
	}
}

// P27.1: Check's fault, beside which nothing else is told.
func TestLawsFault(t *testing.T) {
	for _, lens := range []string{"", "x", "source: str", "source: str\nlens: copy\n", "\xff", shows + "---\n", script("str", "{hoist: a}"), "[", strings.Repeat("x", 65537)} {
		_, _, want := run.Check(lens)
		for _, s := range []string{source, "", "["} {
			for _, w := range []string{view, "", "["} {
				r, f := audit.Laws(lens, s, w)
				if !want.Bad() || want.Part != run.Lens || f != want || r != (audit.Report{}) {
					t.Errorf("%.100q: %+v, part %d, %v at %d", lens, r, f.Part, f, f.At)
				}
			}
		}
	}
}

// P27.1: a report's lines.
func TestLines(t *testing.T) {
	if audit.Skipped != 0 || audit.Holds != 1 || audit.Fails != 2 {
		t.Error("the verdicts' numbers")
	}
	r, _ := audit.Laws(shows, source, "1")
	for _, c := range []struct {
		r    audit.Report
		want string
	}{
		{r, "source {map a:any b?:any}|view {map a:any}|getput holds|putget skipped|createget skipped"},
		{audit.Report{}, "source |view |getput skipped|putget skipped|createget skipped"},
		{audit.Report{"s", "v", audit.Skipped, audit.Holds, audit.Fails}, "source s|view v|getput skipped|putget holds|createget fails"},
		{audit.Report{"v", "s", audit.Fails, audit.Skipped, audit.Holds}, "source v|view s|getput fails|putget skipped|createget holds"},
		{audit.Report{"\xff", "a b", audit.Holds, audit.Fails, audit.Skipped}, "source \xff|view a b|getput holds|putget fails|createget skipped"},
		{audit.Report{"", "", -1, 3, 1 << 40}, "source |view |getput other|putget other|createget other"},
	} {
		for range 2 {
			l := c.r.Lines()
			if got := strings.Join(l, "|"); len(l) != 5 || got != c.want {
				t.Errorf("%+v: %q", c.r, got)
			}
			clear(l[:cap(l)])
		}
	}
}

// emitted is a text's only graph, as layer 14 writes it; empty, if there is none.
func emitted(s string) string {
	d, f := load.One(s)
	if f.Bad() {
		return ""
	}
	s, _ = emit.Graph(d.Graph)
	return s
}

// falling makes what falls by a number.
func falling(seed int64) strew.Maker { return strew.New(rand.New(rand.NewSource(seed)).Intn) }

// known is what is known of a law, if its first step answers s, and its second one, that is asked only then, what then answers.
func known(s string, f run.Fault, then func(string) (string, run.Fault), want string) string {
	if f.Bad() {
		return "skipped"
	}
	now, f := then(s)
	switch {
	case f.Part == run.Result && (f.Errno == api.ErrNodes || f.Errno == api.ErrSize || f.Errno == api.ErrDeep):
		return "skipped"
	case f.Bad() || now != emitted(want):
		return "fails"
	}
	return "holds"
}

// slowLaws are the words of the verdicts, as the chapter says.
func slowLaws(lens, source, view string) string {
	got, f := run.Get(lens, source)
	l := known(got, f, func(w string) (string, run.Fault) { return run.Put(lens, w, source) }, source)
	put, f := run.Put(lens, view, source)
	l += " " + known(put, f, func(s string) (string, run.Fault) { return run.Get(lens, s) }, view)
	made, f := run.Create(lens, view)
	return l + " " + known(made, f, func(s string) (string, run.Fault) { return run.Get(lens, s) }, view)
}

// P27.1, P27.3: lenses, sources and views as they fall, and garbled: no law fails.
func TestLawsFall(t *testing.T) {
	m, met := falling(271), make(map[string]int)
	for range 20 {
		m.Define(4)
		for range 40 {
			lens, w, s := m.Texts()
			for range 3 {
				r, f := audit.Laws(lens, s, w)
				from, to, want := run.Check(lens)
				if f != want || f.Bad() && r != (audit.Report{}) {
					t.Fatalf("%q: part %d, %v at %d: %+v", lens, f.Part, f, f.At, r)
				}
				if !f.Bad() {
					words := verdicts(r)
					if r.Source != from || r.View != to || words != slowLaws(lens, s, w) || strings.Contains(words, "fails") {
						t.Fatalf("%q of %q and %q: %+v, not %s", lens, s, w, r, slowLaws(lens, s, w))
					}
					met[words]++
				}
				lens, w, s = m.Garbled(lens), m.Garbled(w), m.Garbled(s)
			}
		}
	}
	if len(met) < 4 || met["holds holds holds"] < 500 || met["skipped skipped holds"] < 50 || met["holds skipped skipped"] < 50 {
		t.Error(met)
	}
}

// W6: bytes as they fall.
func TestLawsBytes(t *testing.T) {
	m, met := falling(274), make(map[string]int)
	parts := strings.Split("\n|\n|  |- |: |a: |x|1|[|]|{|}|, |&a |*a|'x'|#|\xff", "|")
	text := func() string {
		s := ""
		for range m.Below(6) {
			s += parts[m.Below(len(parts))]
		}
		return s
	}
	for range 5000 {
		s, w := text(), text()
		r, f := audit.Laws(script("any", "{plunge: a}"), s, w)
		if f.Bad() || strings.Contains(verdicts(r), "fails") {
			t.Fatalf("%q and %q: %+v, %v", s, w, r, f)
		}
		met[verdicts(r)]++
	}
	if len(met) < 3 {
		t.Error(met)
	}
}
