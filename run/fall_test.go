package run_test

import (
	"math/rand"
	"strings"
	"testing"

	"stanhope/api"
	"stanhope/brew"
	"stanhope/check"
	"stanhope/lens"
	"stanhope/load"
	"stanhope/program"
	"stanhope/run"
	"stanhope/sketch"
	"stanhope/strew"
	"stanhope/typ"
	"stanhope/value"
)

// falling makes what falls by a number.
func falling(seed int64) strew.Maker { return strew.New(rand.New(rand.NewSource(seed)).Intn) }

// answer is what a call answers.
type answer struct {
	text string
	run.Fault
}

// call makes an answer of what a call answers.
func call(s string, f run.Fault) answer { return answer{s, f} }

// trial are the texts that calls are handed.
type trial struct{ lens, view, source string }

// hold holds that what a call answers is a result or an error, as may be, and what a plain reading answers.
func (x trial) hold(t *testing.T, what string, got, want answer) answer {
	t.Helper()
	if got != want {
		t.Fatalf("%s: %+v: %q, part %d, %v at %d, not %q, part %d, %v at %d", what, x, got.text, got.Part, got, got.At, want.text, want.Part, want, want.At)
	}
	in := [...]string{"", x.lens, x.source, x.view, ""}[got.Part]
	limit := got.Errno == api.ErrNodes || got.Errno == api.ErrDeep || got.Errno == api.ErrSize
	if got.Bad() == (got.text != "") || got.At < 0 || got.At > len(in) || got.Part == run.Result && !limit {
		t.Fatalf("%s: %+v: %q, part %d, %v at %d", what, x, got.text, got.Part, got, got.At)
	}
	return got
}

// each holds all calls against plain readings; it answers what is got, put and created.
func (x trial) each(t *testing.T) (got, put, made answer) {
	t.Helper()
	got = x.hold(t, "got", call(run.Get(x.lens, x.source)), call(slowGet(x.lens, x.source)))
	put = x.hold(t, "put", call(run.Put(x.lens, x.view, x.source)), call(slowPut(x.lens, x.view, x.source)))
	made = x.hold(t, "created", call(run.Create(x.lens, x.view)), call(slowCreate(x.lens, x.view)))
	return got, put, made
}

// laws holds all calls, of which nothing is wrong: what is put, and created, shows the view; the own view, put, changes nothing.
func (x trial) laws(t *testing.T) (got, put, made answer) {
	t.Helper()
	got, put, made = x.each(t)
	view, old := answer{text: emitted(t, x.view)}, answer{text: emitted(t, x.source)}
	x.hold(t, "got of what is put", call(run.Get(x.lens, put.text)), view)
	x.hold(t, "got of what is created", call(run.Get(x.lens, made.text)), view)
	x.hold(t, "the own view put", call(run.Put(x.lens, got.text, x.source)), old)
	return got, put, made
}

// P26.1, P26.2: lenses, sources and views as they fall: what is put, and created, shows the view; the
// own view, put, changes nothing.
func TestFall(t *testing.T) {
	m := falling(261)
	kinds, done, shared := make(map[lens.Kind]int), 0, 0
	for range 40 {
		m.Define(5)
		for range 50 {
			p := m.Leafy()
			l := m.Program(m.Defs, p.Source, p.Lens)
			if from, to, f := run.Check(l); from != typ.Show(p.Source) || to != typ.Show(p.View) || f != (run.Fault{}) {
				t.Fatalf("%s: %s, %s, %v", l, from, to, f)
			}
			brew.Count(p.Lens, kinds)
			w, s := m.Document(p.View, 4), m.Document(p.Source, 4)
			if w == "" || s == "" {
				continue
			}
			done++
			_, put, made := trial{l, w, s}.laws(t)
			if strings.Contains(put.text, "*") && put != made {
				shared++
			}
		}
	}
	for k := lens.Id; k <= lens.Use; k++ {
		if kinds[k] < 5 {
			t.Errorf("%s: %d", check.Word(k), kinds[k])
		}
	}
	if done < 1500 || shared < 30 {
		t.Error(done, shared)
	}
}

// shares are programs whose sources and views have many leaves.
var shares = [][2]string{
	{"any", "copy"},
	{"{record: {a: any, b?: any}}", "{project: {keep: [a]}}"},
	{"{record: {a: {list: any}, b: {list: dag}}}", "{compose: [{project: {keep: [a], default: {b: []}}}, {hoist: a}]}"},
	{"{record: {a: {keyed: {record: {k: str, v: any}}, by: k}, b?: any}}", "{compose: [{project: {keep: [a]}}, {on: {a: {keyed: {rename: {v: w}}}}}]}"},
	{"{list: {union: [str, {record: {v: any}}]}}", "{filter: ['{map']}"},
	{"{record: {}, rest: {union: [str, {list: dag}]}}", "{filter: ['[seq']}"},
	{"{union: [{list: any}, {record: {}, rest: any}]}", "{union: [{items: {plunge: k}}, {map: copy}]}"},
	{"{list: {record: {a: any, b?: any}}}", "{items: {project: {keep: [a]}}}"},
	{"{record: {a: dag, b: any, c?: any, d?: any}}", "{compose: [{sink: {into: k, keys: [a, d]}}, {rename: {b: c, c: b}}, {on: {k: {project: {keep: [a]}}}}]}"},
}

// P26.1, P26.2: own views of which some things are changed, put back, by lenses of which much is shared.
func TestChanged(t *testing.T) {
	m := falling(262)
	pick := sketch.Pick(m.Below)
	kept, parted := 0, 0
	for range 150 {
		for _, r := range shares {
			l := script(r[0], r[1])
			p, _ := program.Ready(l)
			s := m.Document(p.Plan.Source, 4)
			if s == "" {
				continue
			}
			own := of(t, l+s)(run.Get(l, s))
			d, _ := load.One(own)
			g := d.Graph
			for range m.Below(4) {
				g = pick.Changed(g)
			}
			if _, f := value.Parse(typ.Defs{}, p.Plan.View, g); f.Bad() {
				continue
			}
			w := m.Written(g)
			_, put, made := trial{l, w, s}.laws(t)
			switch old := emitted(t, s); {
			case put.text == old:
				kept++
			case put != made && strings.Contains(put.text, "*"):
				parted++
			}
		}
	}
	if kept < 300 || parted < 50 {
		t.Error(kept, parted)
	}
}

// P26.1, W6: lenses, sources and views that are spoiled, or meant for others: a result or one error, at a place of one of them.
func TestSpoiled(t *testing.T) {
	m, met := falling(263), make(map[string]int)
	var last trial
	for range 40 {
		m.Define(4)
		for range 30 {
			var x trial
			x.lens, x.view, x.source = m.Texts()
			for range 4 {
				y := x
				switch m.Below(5) {
				case 0:
					y.lens = m.Garbled(x.lens)
				case 1:
					y.view = m.Garbled(x.view)
				case 2:
					y.source = m.Garbled(x.source)
				case 3:
					y = trial{m.Garbled(x.lens), m.Garbled(x.view), m.Garbled(x.source)}
				case 4:
					y.view, y.source = last.view, last.source
				}
				got, put, made := y.each(t)
				for _, a := range []answer{got, put, made} {
					met[fault(a.Part, a.Errno, 0)]++
				}
				_, _, f := run.Check(y.lens)
				if f != put.Fault && (f.Bad() || put.Part == run.Lens) || f.Bad() && f.Part != run.Lens {
					t.Fatalf("%+v: part %d, %v at %d, and part %d, %v at %d", y, f.Part, f, f.At, put.Part, put, put.At)
				}
			}
			last = x
		}
	}
	if len(met) < 20 || met["none: ok at 0"] < 2000 || met[fault(run.Lens, api.ErrSyntax, 0)] < 100 {
		t.Error(met)
	}
}

// W6: bytes as they fall.
func TestBytes(t *testing.T) {
	m, met := falling(264), make(map[string]int)
	parts := strings.Split("\n|\n|  |- |- |: |a: |b: |k: |x|1|~|[|]|{|}|, |&a |*a|!t |'x'|\"\\n\"|#|---\n|source: |lens: |str|id|copy|any|list: |record: |{plunge: k}|types: |lenses: ", "|")
	text := func() string {
		s := ""
		for range m.Below(12) {
			s += parts[m.Below(len(parts))]
		}
		return s
	}
	for range 20000 {
		x := trial{script("any", "copy"), text(), text()}
		if m.Below(2) == 0 {
			x.lens = text()
		}
		for _, a := range []answer{call(run.Get(x.lens, x.source)), call(run.Put(x.lens, x.view, x.source)), call(run.Create(x.lens, x.view))} {
			x.hold(t, "bytes", a, a)
			met[fault(a.Part, a.Errno, 0)]++
		}
	}
	if len(met) < 15 || met["none: ok at 0"] < 1000 {
		t.Error(met)
	}
}
