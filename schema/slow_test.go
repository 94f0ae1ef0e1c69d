package schema_test

import (
	"math/rand"
	"slices"
	"strings"
	"testing"

	"stanhope/api"
	"stanhope/brew"
	"stanhope/graph"
	"stanhope/load"
	"stanhope/resolve"
	"stanhope/schema"
	"stanhope/scribe"
	"stanhope/spell"
	"stanhope/typ"
)

// plainly reads types as the chapter tells them, and ends it all at what is wrong.
type plainly struct {
	load.Doc
	parts int
}

// fail ends it all.
func (p *plainly) fail(e api.Errno, n int) { panic(wrong(e, p.At[n])) }

// want asks that something is so of a node.
func (p *plainly) want(ok bool, n int) {
	if !ok {
		p.fail(api.ErrForm, n)
	}
}

// text is a node's text; for is the type's node.
func (p *plainly) text(k, n int) string {
	x := p.Nodes[k]
	p.want(x.Kind == graph.Scalar && slices.Contains([]string{"str", "bool", "int"}, x.Tag), n)
	return x.Text
}

// entries are what stands behind a mapping's keys, and the keys, rising, with blanks between them.
func (p *plainly) entries(k, n int) (map[string]int, string) {
	x := p.Nodes[k]
	p.want(x.Kind == graph.Map && x.Tag == "map", n)
	m := map[string]int{}
	for i, key := range x.Keys {
		m[key] = x.Kids[i]
	}
	return m, strings.Join(rising(x.Keys), " ")
}

// rising are texts in order.
func rising(l []string) []string {
	l = slices.Clone(l)
	slices.Sort(l)
	return l
}

// typ is a node as a type, as layer 15 shows it.
func (p *plainly) typ(n int) typ.Type {
	if p.parts++; p.parts > 400 {
		p.fail(api.ErrMany, n)
	}
	t := typ.Type{At: p.At[n]}
	if x := p.Nodes[n]; x.Kind == graph.Scalar {
		p.scalar(&t, x, n)
		return t
	}
	m, keys := p.entries(n, n)
	tag := func(other string) {
		if t.Tag = other; strings.HasSuffix(" "+keys, " tag") {
			t.Tag = p.text(m["tag"], n)
		}
	}
	switch keys {
	case "enum":
		p.enum(&t, m["enum"], n)
	case "list", "list tag":
		t.Kind = typ.List
		tag("seq")
		t.Items = []typ.Type{p.typ(m["list"])}
	case "by keyed", "by keyed tag":
		t.Kind, t.Name = typ.Keyed, p.text(m["by"], n)
		tag("seq")
		t.Items = []typ.Type{p.typ(m["keyed"])}
	case "union":
		x := p.Nodes[m["union"]]
		p.want(x.Kind == graph.Seq && x.Tag == "seq", n)
		t.Kind = typ.Union
		for _, k := range x.Kids {
			t.Items = append(t.Items, p.typ(k))
		}
	case "record", "record rest", "record tag", "record rest tag":
		t.Kind = typ.Record
		tag("map")
		p.record(&t, m["record"], n)
		if k, ok := m["rest"]; ok {
			t.Items = []typ.Type{p.typ(k)}
		}
	default:
		p.fail(api.ErrForm, n)
	}
	return t
}

// scalar reads a type that is a scalar.
func (p *plainly) scalar(t *typ.Type, x graph.Node, n int) {
	if x.Tag == "null" {
		x.Tag, x.Text = "str", "null"
	}
	p.want(x.Tag == "str", n)
	const bytes = "abcdefghijklmnopqrstuvwxyzABCDEFGHIJKLMNOPQRSTUVWXYZ0123456789_-"
	name := func(s string) bool { return s != "" && len(s) <= 32 && strings.Trim(s, bytes) == "" }
	switch s := x.Text; {
	case s == "null" || s == "bool" || s == "int" || s == "str" || strings.HasPrefix(s, "!") && name(s[1:]):
		t.Kind, t.Tag = typ.Scalar, s
	case s == "dag":
		t.Kind = typ.Dag
	case s == "any":
		t.Kind = typ.Any
	default:
		p.want(name(s), n)
		t.Kind, t.Name = typ.Name, s
	}
}

// enum reads an enum's words.
func (p *plainly) enum(t *typ.Type, k, n int) {
	x := p.Nodes[k]
	p.want(x.Kind == graph.Seq && x.Tag == "seq" && len(x.Kids) > 0, n)
	t.Kind, t.Tag = typ.Enum, p.Nodes[x.Kids[0]].Tag
	words := map[string]int{}
	for _, k := range x.Kids {
		p.want(p.Nodes[k].Kind == graph.Scalar && p.Nodes[k].Tag == t.Tag, n)
		words[p.Nodes[k].Text] = k
	}
	for w := range words {
		t.Words = append(t.Words, w)
	}
	slices.Sort(t.Words)
}

// record reads a record's fields.
func (p *plainly) record(t *typ.Type, k, n int) {
	in, _ := p.entries(k, n)
	fields := map[string]typ.Field{}
	for _, k := range rising(p.Nodes[k].Keys) {
		f := typ.Field{Key: strings.TrimSuffix(k, "?"), Optional: strings.HasSuffix(k, "?")}
		_, twice := fields[f.Key]
		p.want(!twice, n)
		fields[f.Key] = f
	}
	for _, key := range rising(p.Nodes[k].Keys) {
		f := fields[strings.TrimSuffix(key, "?")]
		f.Type = p.typ(in[key])
		fields[f.Key] = f
	}
	for len(fields) > 0 {
		var least *typ.Field
		for _, f := range fields {
			if least == nil || f.Key < least.Key {
				least = &f
			}
		}
		t.Fields = append(t.Fields, *least)
		delete(fields, least.Key)
	}
}

// shown is a type with the places of all that is in it.
func shown(t typ.Type) string {
	s := typ.Show(t) + " at"
	for _, n := range places(t) {
		s += " " + wrong(api.OK, n)[len("ok at "):]
	}
	return s
}

// plain is what the plain reading tells of a node.
func (p *plainly) plain(n int) (s string) {
	defer func() {
		if x := recover(); x != nil {
			s = x.(string)
		}
	}()
	return shown(p.typ(n))
}

// plainDefs is what the plain reading tells of a node as definitions.
func (p *plainly) plainDefs(n int) (s string) {
	defer func() {
		if x := recover(); x != nil {
			s = x.(string)
		}
	}()
	in, _ := p.entries(n, n)
	for _, key := range rising(p.Nodes[n].Keys) {
		s += key + "=" + shown(p.typ(in[key])) + " "
	}
	return s
}

// read is what a reader tells of a node; it holds P24.3.
func read(t *testing.T, r *schema.Reader, n int) string {
	t.Helper()
	x, f := r.Type(n)
	if f.Bad() {
		return wrong(f.Errno, f.At)
	}
	formed(t, x)
	return shown(x)
}

// readDefs is what a reader tells of a node as definitions.
func readDefs(t *testing.T, r *schema.Reader, n int) string {
	t.Helper()
	d, f := r.Defs(n)
	if f.Bad() {
		return wrong(f.Errno, f.At)
	}
	s := ""
	for i, x := range d.Types {
		formed(t, x)
		s += d.Names[i] + "=" + shown(x) + " "
	}
	return s
}

// formed holds P24.3: a type has what its kind names, and nothing else, but for tags, names, and how many Items a Union has.
func formed(t *testing.T, x typ.Type) {
	t.Helper()
	words := slices.Clone(x.Words)
	slices.Sort(words)
	ok := slices.Equal(words, x.Words) && len(slices.Compact(words)) == len(x.Words) && (len(words) > 0) == (x.Kind == typ.Enum)
	for _, w := range x.Words {
		ok = ok && resolve.Right(x.Tag, w)
	}
	for i, f := range x.Fields {
		ok = ok && x.Kind == typ.Record && resolve.Valid(f.Key) && len(f.Key) <= 1024 && (i == 0 || x.Fields[i-1].Key < f.Key)
		formed(t, f.Type)
	}
	for _, i := range x.Items {
		formed(t, i)
	}
	switch x.Kind {
	case typ.Scalar, typ.Enum:
		ok = ok && len(x.Items) == 0 && x.Name == ""
	case typ.Record:
		ok = ok && len(x.Items) <= 1 && x.Name == ""
	case typ.List:
		ok = ok && len(x.Items) == 1 && x.Name == ""
	case typ.Keyed:
		ok = ok && len(x.Items) == 1 && resolve.Valid(x.Name)
	case typ.Union:
		ok = ok && x.Name == "" && x.Tag == ""
	case typ.Name, typ.Dag, typ.Any:
		ok = ok && len(x.Items) == 0 && x.Tag == "" && (x.Name == "") == (x.Kind != typ.Name)
	default:
		ok = false
	}
	if !ok {
		t.Errorf("%+v", x)
	}
}

// hold holds what one reader tells of all nodes, in some order, against the plain reading.
func hold(t *testing.T, d load.Doc, pick func(int) int, met map[string]int) {
	t.Helper()
	r, p := schema.New(d), &plainly{Doc: d}
	for i := range len(d.Nodes) + 2 {
		n := d.Root
		if i > 0 {
			n = pick(len(d.Nodes))
		}
		got, want := "", ""
		if pick(5) > 0 {
			got, want = read(t, r, n), p.plain(n)
		} else {
			got, want = readDefs(t, r, n), p.plainDefs(n)
		}
		if got != want {
			t.Fatalf("%d of %v: %s, not %s", n, d, got, want)
		}
		met[strings.Fields(got + " none")[0][:1]]++
		met["form"] += strings.Count(got, "form")
		met["many"] += strings.Count(got, "many")
	}
}

// rows are the keys of types' mappings, right ones and others.
var rows = []string{"enum", "list", "list tag", "keyed by", "keyed by tag", "union", "record", "record rest", "record tag", "record rest tag", "a b", "a b?", "a? b! a!", "a a?", "t tag", "? a", "list", "union", "enum", "enum", "record", "record", "a", "a?"}

// P24.1, P24.3: documents as they fall, whose nodes are shared and stand within themselves, against the plain reading.
func TestSoup(t *testing.T) {
	rnd := rand.New(rand.NewSource(1))
	pen := scribe.Pen{Pick: rnd.Intn}
	met := map[string]int{}
	for range 12000 {
		hold(t, pen.Soup(1+rnd.Intn(30), rows...), rnd.Intn, met)
	}
	for _, c := range []string{"form", "many", "<", "[", "{", "(", "$"} {
		if met[c] < 50 {
			t.Error(c, met)
		}
	}
}

// P24.1, P24.3: types, written in all ways, are read as they are, each at its place in the text; with
// something changed, they are what the plain reading tells.
func TestWritten(t *testing.T) {
	rnd := rand.New(rand.NewSource(2))
	pen := scribe.Pen{Pick: rnd.Intn}
	m := brew.Maker{Pick: rnd.Intn, Often: 20}
	m.Types = spell.Defs(brew.Names)
	met := map[string]int{}
	for range 2000 {
		x := m.Typ(rnd.Intn(5))
		s := strings.Repeat(" ", rnd.Intn(3)) + pen.Type(x) + "\n"
		d := doc(t, s)
		got, f := schema.New(d).Type(d.Root)
		if f.Bad() || typ.Show(got) != typ.Show(x) || got.At != len(s)-len(strings.TrimLeft(s, " ")) {
			t.Fatalf("%s: %v at %d: %s", s, f, f.At, typ.Show(got))
		}
		for range 5 {
			hold(t, d, rnd.Intn, met)
			g := pen.Spoiled(d.Graph)
			if g.Check().Bad() {
				continue
			}
			d = scribe.Placed(g)
		}
	}
	if met["form"] < 1000 || met["many"] < 100 {
		t.Error(met)
	}
}
