package program_test

import (
	"math/rand"
	"reflect"
	"slices"
	"strings"
	"testing"

	"stanhope/api"
	"stanhope/brew"
	"stanhope/check"
	"stanhope/emit"
	"stanhope/graph"
	"stanhope/lens"
	"stanhope/load"
	"stanhope/program"
	"stanhope/schema"
	"stanhope/scribe"
	"stanhope/spell"
	"stanhope/typ"
	"stanhope/value"
)

// plainly reads lenses and programs as the chapter tells them, types by a reader, and ends it all at what is wrong.
type plainly struct{ *schema.Reader }

// want asks that something is so of a node.
func (p plainly) want(ok bool, n int) {
	if !ok {
		panic(api.Fault{Errno: api.ErrForm, At: p.At[n]})
	}
}

// right goes on where nothing is wrong.
func right[T any](x T, f api.Fault) T {
	if f.Bad() {
		panic(f)
	}
	return x
}

// entries are what stands behind a plain mapping's keys, and the keys, rising; n is the node that is wrong else.
func (p plainly) entries(k, n int) (map[string]int, []string) {
	x := p.Nodes[k]
	p.want(x.Kind == graph.Map && x.Tag == "map", n)
	m, keys := map[string]int{}, []string(nil)
	for i, key := range x.Keys {
		m[key] = x.Kids[i]
		keys = append(keys, key)
	}
	slices.Sort(keys)
	return m, keys
}

// of are the entries of a mapping that has such keys, rising, with blanks between them, or other such ones.
func (p plainly) of(k, n int, keys ...string) map[string]int {
	m, l := p.entries(k, n)
	p.want(slices.Contains(keys, strings.Join(l, " ")), n)
	return m
}

// text is a node's text.
func (p plainly) text(k, n int) string {
	s, ok := schema.Text(p.Nodes[k])
	p.want(ok, n)
	return s
}

// items are what stands in a plain sequence.
func (p plainly) items(k, n int) []int {
	x := p.Nodes[k]
	p.want(x.Kind == graph.Seq && x.Tag == "seq", n)
	return x.Kids
}

// set are the texts of a list, sorted, each once.
func (p plainly) set(k, n int) []string {
	met := map[string]int{}
	for _, i := range p.items(k, n) {
		met[p.text(i, n)]++
	}
	var l []string
	for s := range met {
		l = append(l, s)
	}
	slices.Sort(l)
	return l
}

// literal is a node's literal.
func (p plainly) literal(k, n int) value.Value {
	x := p.Nodes[k]
	p.want(len(x.Kids) == 0, n)
	return value.Value{Kind: value.Kind(x.Kind), Tag: x.Tag, Text: x.Text}
}

// lens is a node as a lens.
func (p plainly) lens(n int) lens.Lens {
	right(0, p.Part(n))
	l := lens.Lens{At: p.At[n]}
	x := p.Nodes[n]
	if x.Kind == graph.Scalar {
		p.want(x.Tag == "str" && (x.Text == "id" || x.Text == "copy"), n)
		l.Kind = map[string]lens.Kind{"id": lens.Id, "copy": lens.Copy}[x.Text]
		return l
	}
	_, keys := p.entries(n, n)
	p.want(len(keys) == 1, n)
	p.filled(&l, keys[0], x.Kids[0], n)
	return l
}

// filled reads what stands behind a kind's word.
func (p plainly) filled(l *lens.Lens, word string, k, n int) {
	kinds := map[string]lens.Kind{"const": 3, "compose": 4, "project": 5, "rename": 6, "hoist": 7, "plunge": 8, "lift": 9, "sink": 10, "filter": 11, "map": 12, "items": 13, "keyed": 14, "on": 15, "union": 16, "fill": 17, "translate": 18, "use": 19}
	l.Kind = kinds[word]
	p.want(l.Kind != 0, n)
	switch word {
	case "const":
		m := p.of(k, n, "default view")
		l.Values = []value.Value{p.literal(m["view"], n), p.literal(m["default"], n)}
	case "compose", "union":
		for _, i := range p.items(k, n) {
			l.Kids = append(l.Kids, p.lens(i))
		}
	case "project":
		m := p.of(k, n, "keep", "default keep")
		l.Keys = p.set(m["keep"], n)
		if d, ok := m["default"]; ok {
			in, keys := p.entries(d, n)
			for _, key := range keys {
				l.Drops, l.Values = append(l.Drops, key), append(l.Values, p.literal(in[key], n))
			}
		}
	case "rename", "translate":
		in, keys := p.entries(k, n)
		for _, key := range keys {
			l.Keys, l.Words = append(l.Keys, key), append(l.Words, p.text(in[key], n))
		}
	case "hoist", "plunge", "lift", "use":
		l.Name = p.text(k, n)
	case "sink":
		m := p.of(k, n, "into keys")
		l.Name, l.Keys = p.text(m["into"], n), p.set(m["keys"], n)
	case "filter":
		l.Words = p.set(k, n)
	case "map", "items", "keyed":
		l.Kids = []lens.Lens{p.lens(k)}
	case "on":
		in, keys := p.entries(k, n)
		for _, key := range keys {
			l.Keys, l.Kids = append(l.Keys, key), append(l.Kids, p.lens(in[key]))
		}
	case "fill":
		m := p.of(k, n, "key value")
		l.Name, l.Values = p.text(m["key"], n), []value.Value{p.literal(m["value"], n)}
	}
}

// program is a node as a program.
func (p plainly) program(n int) (x program.Program) {
	m := p.of(n, n, "lens source", "lens source types", "lens lenses source", "lens lenses source types")
	if k, ok := m["types"]; ok {
		x.Defs.Types = right(p.Defs(k))
	}
	if k, ok := m["lenses"]; ok {
		in, names := p.entries(k, k)
		for _, name := range names {
			d := p.of(in[name], in[name], "lens source view")
			x.Defs.Names = append(x.Defs.Names, name)
			x.Defs.Lenses = append(x.Defs.Lenses, lens.Def{Source: right(p.Type(d["source"])), View: right(p.Type(d["view"])), Lens: p.lens(d["lens"])})
		}
	}
	x.Source = right(p.Type(m["source"]))
	x.Lens = p.lens(m["lens"])
	return x
}

// plain is what a plain reading tells, and what it ends at.
func plain[T any](read func(n int) T, n int) (x T, f api.Fault) {
	defer func() {
		if bad := recover(); bad != nil {
			var zero T
			x, f = zero, bad.(api.Fault)
		}
	}()
	return read(n), f
}

// keys are the keys of lenses' mappings, right ones and others.
var keys = []string{"const", "view default", "compose", "compose", "project", "keep", "keep default", "rename", "hoist", "plunge", "lift", "sink", "into keys", "filter", "map", "items", "keyed", "on", "on", "a b", "a?", "union", "fill", "key value", "translate", "use", "source lens", "source lens view", "map id", "list", ""}

// P25.1: documents as they fall, whose nodes are shared and stand within themselves, against the plain reading.
func TestSoup(t *testing.T) {
	rnd := rand.New(rand.NewSource(1))
	pen := scribe.Pen{Pick: rnd.Intn}
	met, kinds := map[api.Errno]int{}, map[lens.Kind]int{}
	for range 8000 {
		d := pen.Soup(1+rnd.Intn(30), keys...)
		r, p := schema.New(d), plainly{schema.New(d)}
		for range len(d.Nodes) {
			n := rnd.Intn(len(d.Nodes))
			if rnd.Intn(6) == 0 {
				r.Type(n)
				p.Type(n)
			}
			got, f := program.Lens(r, n)
			want, e := plain(p.lens, n)
			if f != e || !reflect.DeepEqual(bare(got), bare(want)) || !slices.Equal(places(got), places(want)) {
				t.Fatalf("%d of %v: %v at %d, %+v, not %v at %d, %+v", n, d, f, f.At, got, e, e.At, want)
			}
			met[f.Errno]++
			kinds[got.Kind]++
		}
	}
	if met[api.OK] < 1500 || met[api.ErrMany] < 500 || met[api.ErrForm] < 5000 {
		t.Error(met)
	}
	for k := lens.Id; k <= lens.Use; k++ {
		if kinds[k] == 0 {
			t.Error(k, kinds)
		}
	}
}

// making makes programs as they fall.
func making(seed int64) (*rand.Rand, scribe.Pen, *brew.Maker) {
	rnd := rand.New(rand.NewSource(seed))
	m := &brew.Maker{Pick: rnd.Intn, Often: 20}
	m.Types = spell.Defs(brew.Names)
	return rnd, scribe.Pen{Pick: rnd.Intn}, m
}

// pure is a pen that writes everything in one way.
var pure scribe.Pen

// P25.1, P25.2: programs, written in all ways, are read as they are, and made ready as layer 18 makes them.
func TestWritten(t *testing.T) {
	rnd, pen, m := making(2)
	met := map[api.Errno]int{}
	for range 400 {
		e := m.Define(5)
		for range 8 {
			source := m.Typ(rnd.Intn(4))
			l := m.Lens(source, rnd.Intn(4))
			s := pen.Program(e.Defs, source, l)
			p, f := program.Read(s)
			if f != (api.Fault{}) || pure.Program(p.Defs, p.Source, p.Lens) != pure.Program(e.Defs, source, l) {
				t.Fatalf("%s: %v at %d: %+v", s, f, f.At, p)
			}
			x, f := program.Ready(s)
			plan, e := check.Check(p.Defs, p.Lens, p.Source)
			if f != e || !reflect.DeepEqual(x.Plan, plan) || !f.Bad() && len(x.Env.Plans) != len(p.Defs.Names) {
				t.Fatalf("%s: %v at %d, not %v at %d: %+v", s, f, f.At, e, e.At, x.Plan)
			}
			met[f.Errno]++
		}
	}
	if met[api.OK] < 500 || met[api.ErrLens] < 100 {
		t.Error(met)
	}
}

// readily makes a program ready, check by check.
func readily(s string) (l program.Loaded, f api.Fault) {
	defer func() {
		if bad := recover(); bad != nil {
			l, f = program.Loaded{}, bad.(api.Fault)
		}
	}()
	p := right(program.Read(s))
	l.Env = right(check.Ready(p.Defs))
	right(0, typ.Check(p.Defs.Types, p.Source))
	right(0, p.Lens.Check())
	l.Plan = right(check.Check(p.Defs, p.Lens, p.Source))
	return l, f
}

// P25.1, P25.2: programs with something changed against the plain reading, and against the checks one by one.
func TestSpoiled(t *testing.T) {
	rnd, pen, m := making(3)
	met := map[api.Errno]int{}
	for range 400 {
		e := m.Define(5)
		source := m.Typ(rnd.Intn(4))
		d := doc(t, pen.Program(e.Defs, source, m.Lens(source, rnd.Intn(4))))
		for range 8 {
			g := d.Graph
			for range 1 + rnd.Intn(2) {
				if x := pen.Spoiled(g); !x.Check().Bad() {
					g = x
				}
			}
			s, f := emit.Graph(g)
			if f.Bad() {
				continue
			}
			r := schema.New(doc(t, s))
			got, f := program.Read(s)
			want, e := plain(plainly{r}.program, r.Root)
			if f != e || pure.Type(got.Source) != pure.Type(want.Source) || !reflect.DeepEqual(tidy(got), tidy(want)) {
				t.Fatalf("%s: %v at %d, %+v, not %v at %d, %+v", s, f, f.At, got, e, e.At, want)
			}
			x, f := program.Ready(s)
			y, e := readily(s)
			if f != e || !reflect.DeepEqual(x, y) {
				t.Fatalf("%s: %v at %d, not %v at %d", s, f, f.At, e, e.At)
			}
			met[f.Errno]++
		}
	}
	for _, n := range []api.Errno{api.OK, api.ErrForm, api.ErrMany, api.ErrName, api.ErrLens} {
		if met[n] == 0 {
			t.Error(n, met)
		}
	}
}

// tidy is a program with no empty lists.
func tidy(p program.Program) program.Program {
	p.Defs.Names, p.Defs.Lenses = tight(p.Defs.Names), tight(p.Defs.Lenses)
	for i := range p.Defs.Lenses {
		p.Defs.Lenses[i].Lens = tidied(p.Defs.Lenses[i].Lens)
	}
	p.Lens = tidied(p.Lens)
	return p
}

// tidied is a lens with no empty lists.
func tidied(l lens.Lens) lens.Lens {
	at := l.At
	kids := l.Kids
	l = bare(l)
	l.At = at
	for i := range kids {
		l.Kids[i] = tidied(kids[i])
	}
	return l
}

// P25.3: whatever the bytes are, a program is told, or an error at a place of theirs.
func TestBytes(t *testing.T) {
	rnd, pen, m := making(4)
	const bits = "[]{}:,*&!|>'\"#-? \n\tax1\xff\x00é"
	met := map[api.Errno]int{}
	for range 3000 {
		e := m.Define(3)
		source := m.Typ(rnd.Intn(3))
		s := []byte(pen.Program(e.Defs, source, m.Lens(source, rnd.Intn(3))))
		for range 1 + rnd.Intn(3) {
			at := rnd.Intn(len(s))
			switch rnd.Intn(4) {
			case 0:
				s[at] = bits[rnd.Intn(len(bits))]
			case 1:
				s = slices.Insert(s, at, bits[rnd.Intn(len(bits))])
			case 2:
				s = slices.Delete(s, at, min(len(s), at+1+rnd.Intn(4)))
			default:
				from := rnd.Intn(len(s))
				s = slices.Insert(s, at, s[from:min(len(s), from+rnd.Intn(20))]...)
			}
			if len(s) == 0 {
				break
			}
		}
		text := string(s)
		p, f := program.Read(text)
		x, e2 := program.Ready(text)
		d, one := load.One(text)
		switch {
		case f.Bad() && (f.At < 0 || f.At > len(text) || !reflect.DeepEqual(p, program.Program{}) || e2 != f):
			t.Fatalf("%q: %v at %d, %v at %d", text, f, f.At, e2, e2.At)
		case one.Bad() && f != one:
			t.Fatalf("%q: %v at %d, not %v", text, f, f.At, one)
		case !one.Bad() && f.Bad() && !slices.Contains(d.At, f.At):
			t.Fatalf("%q: %v at %d, where no node stands", text, f, f.At)
		case e2.Bad() && (!reflect.DeepEqual(x, program.Loaded{}) || !one.Bad() && !slices.Contains(d.At, e2.At)):
			t.Fatalf("%q: %v at %d", text, e2, e2.At)
		case !e2.Bad() && (x.Plan.Lens.Kind == 0 || typ.Check(p.Defs.Types, x.Plan.View).Bad()):
			t.Fatalf("%q: %+v", text, x)
		}
		met[e2.Errno]++
	}
	if len(met) < 8 || met[api.OK] < 30 || met[api.ErrForm] < 100 {
		t.Error(met)
	}
	for _, s := range []string{"\x00", "%", "---", "---\n---", "\t", "{", "}", "*x", "&x", "!a", "|", ">", "source", "source:", "source: \nlens:", "lens: |\n  id\nsource: t", strings.Repeat("[", 100)} {
		if got := ready(s); !strings.Contains(got, " at ") {
			t.Errorf("%q: %s", s, got)
		}
	}
}
