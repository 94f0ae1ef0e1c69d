package check_test

import (
	"fmt"
	"math"
	"math/rand"
	"reflect"
	"slices"
	"strings"
	"testing"

	"stanhope/api"
	"stanhope/carve"
	"stanhope/check"
	"stanhope/fault"
	"stanhope/grind"
	"stanhope/lens"
	"stanhope/spell"
	"stanhope/typ"
	"stanhope/value"
)

// all are lenses of all kinds, each with a type of sources by which it is right, and one by which it isn't.
var all = []struct{ lens, right, wrong string }{
	{"id", "{map b:$rec}", ""},
	{"copy", "$any", "str"},
	{"{const: {view: x, default: y}}", "<str 'x' 'y'>", "int"},
	{"{compose: [{sink: {into: z, keys: [a, c]}}, {lift: z}]}", "{map a:str b?:int c:any}", "{map a:str}"},
	{"{project: {keep: [b, c], default: {a: x, d: []}}}", "{map a:str b:int c?:any d:[seq any] e?:int *:dag}", "{map a:str b:int d:any}"},
	{"{rename: {a: z, c: b}}", "{!m a:str c:int d:any}", "{map a:str b:any c:int}"},
	{"{hoist: a}", "{map a:$rec}", "{map a:str b:str}"},
	{"{plunge: k}", "$rec", ""},
	{"{lift: m}", "{map a:str m:{map b?:any z:int} y:str}", "{map a:str m:{map a:str}}"},
	{"{sink: {into: b, keys: [c, d]}}", "{map a:str c:int d?:any e:dag}", "{map b:str c:int d:any}"},
	{"{filter: [.bool, .int]}", "[seq (str|int|[seq any]|bool)]", "[seq (str|int)]"},
	{"{map: {plunge: k}}", "{map *:(str|int)}", "{map a:int *:str}"},
	{"{items: {plunge: k}}", "$l", "$k"},
	{"{keyed: {use: fill}}", "$k", "$l"},
	{"{on: {a: {plunge: k}, c: id}}", "{map a:str b:any c?:int *:any}", "{map a:str b:any}"},
	{"{union: [{plunge: k}, id, {items: id}]}", "$u", "$t"},
	{"{fill: {key: b, value: 5}}", "{map a:str b?:int *:any}", "{map a:str b:int}"},
	{"{translate: {a: z, b: a}}", "$e", "<str 'a'>"},
	{"{use: tree}", "$t", "$u"},
}

// R3: what is handed in stays as it is, with the room behind its end; R5: what is told is the same each time.
func TestHandedIn(t *testing.T) {
	d := grind.RoomyProgram(defs)
	was := grind.WholeProgram(d)
	for _, c := range all {
		l := grind.Roomy(grind.Lens(c.lens))
		before := grind.Whole(l)
		for i, text := range []string{c.right, c.wrong} {
			if text == "" {
				continue
			}
			s := spell.Roomy(spell.Type(text))
			if f := typ.Check(d.Types, s); f.Bad() {
				t.Fatalf("%s: %v at %d", text, f, f.At)
			}
			kept := spell.Whole(s)
			first, f := check.Check(d, l, s)
			if f.Bad() != (i == 1) {
				t.Errorf("%s by %s: %v at %d, %s", c.lens, text, f, f.At, typ.Show(first.View))
			}
			for range 20 {
				p, err := check.Try(d, l, s)
				if fault.Of(err) != f || !reflect.DeepEqual(p, first) {
					t.Fatalf("%s by %s: %v, not %v", c.lens, text, err, f)
				}
			}
			if !reflect.DeepEqual(spell.Whole(s), kept) {
				t.Errorf("%s by %s: %+v, not %+v", c.lens, text, s, kept)
			}
			check.Fit(d.Types, s, first.View)
			if !reflect.DeepEqual(spell.Whole(s), kept) {
				t.Errorf("%s: %+v, not %+v", text, s, kept)
			}
		}
		if now := grind.Whole(l); !reflect.DeepEqual(now, before) {
			t.Errorf("%+v, not %+v", now, before)
		}
	}
	e, f := check.Ready(d)
	for range 20 {
		if x, g := check.Ready(d); f.Bad() || g.Bad() || !reflect.DeepEqual(x, e) {
			t.Fatalf("%v, %v: %+v", f, g, x)
		}
	}
	if now := grind.WholeProgram(d); !reflect.DeepEqual(now, was) {
		t.Errorf("%+v, not %+v", now, was)
	}
}

// R3: an Env's lists are its own.
func TestOwnLists(t *testing.T) {
	d := lens.Defs{Types: typ.Defs{Names: slices.Clone(defs.Types.Names), Types: slices.Clone(defs.Types.Types)}, Names: slices.Clone(defs.Names), Lenses: slices.Clone(defs.Lenses)}
	e, _ := check.Ready(d)
	f, _ := check.Ready(d)
	for i := range d.Names {
		d.Names[i], d.Lenses[i] = "written", lens.Def{}
	}
	for i := range d.Types.Names {
		d.Types.Names[i], d.Types.Types[i] = "written", typ.Type{}
	}
	if !alike(e.Defs, defs) {
		t.Errorf("%+v", e.Defs)
	}
	for i := range e.Plans {
		e.Defs.Names[i], e.Defs.Lenses[i], e.Plans[i] = "again", lens.Def{}, check.Plan{}
	}
	if !alike(f.Defs, defs) {
		t.Errorf("%+v", f.Defs)
	}
	for i, name := range defs.Names {
		if p, ok := f.Find(name); !ok || !reflect.DeepEqual(p.Lens, defs.Lenses[i].Lens) {
			t.Errorf("%s: %v, %+v", name, ok, p)
		}
	}
}

// R3: the lists of a plan are its own, too.
func TestOwnPlans(t *testing.T) {
	for _, c := range all {
		l, s := grind.Lens(c.lens), spell.Type(c.right)
		p, _ := check.Check(defs, l, s)
		q, _ := check.Check(defs, l, s)
		for i := range p.Kids {
			p.Kids[i] = check.Plan{}
		}
		// What a lens makes itself is new; what comes from elsewhere may be shared.
		switch l.Kind {
		case lens.Id, lens.Copy, lens.Compose, lens.Hoist, lens.Use:
		default:
			v := p.View
			for i := range v.Fields {
				v.Fields[i] = typ.Field{}
			}
			if l.Kind != lens.On && l.Kind != lens.Fill {
				for i := range v.Items {
					v.Items[i] = typ.Type{}
				}
			}
			for i := range v.Words {
				v.Words[i] = "written"
			}
		}
		now, f := check.Check(defs, l, s)
		if f.Bad() || !reflect.DeepEqual(now, q) || !reflect.DeepEqual(l, grind.Lens(c.lens)) || !reflect.DeepEqual(s, spell.Type(c.right)) {
			t.Errorf("%s by %s: %v: %+v", c.lens, c.right, f, now)
		}
	}
}

// R4: nil and empty lists are one.
func TestEmpty(t *testing.T) {
	r := typ.Type{Kind: typ.Record, Tag: "map", Words: []string{}, Fields: []typ.Field{}, Items: []typ.Type{}}
	l := lens.Lens{Kind: lens.Project, Keys: []string{}, Words: []string{}, Drops: []string{}, Kids: []lens.Lens{}, Values: []value.Value{}}
	d := lens.Defs{Types: typ.Defs{Names: []string{}, Types: []typ.Type{}}, Names: []string{}, Lenses: []lens.Def{}}
	for _, d := range []lens.Defs{d, {}} {
		p, f := check.Check(d, l, r)
		q, g := check.Check(d, lens.Lens{Kind: lens.Project}, typ.Type{Kind: typ.Record, Tag: "map"})
		if f.Bad() || g.Bad() || typ.Show(p.View) != "{map}" || typ.Show(q.View) != "{map}" {
			t.Error(f, g, typ.Show(p.View), typ.Show(q.View))
		}
		e, f := check.Ready(d)
		if _, ok := e.Find(""); f.Bad() || ok || len(e.Plans) != 0 {
			t.Error(f, ok, e)
		}
	}
}

// R1: lenses of any depth are gone through.
func TestDeep(t *testing.T) {
	const n = 1 << 14
	for _, word := range grind.Arounds() {
		for _, last := range []string{"id", "copy", "{use: none}"} {
			leaf := grind.Lens(last)
			leaf.At = 5
			l, s, _ := grind.Nest(word, n, leaf, spell.Type("str"), carve.Str("x"))
			p, f := check.Check(lens.Defs{}, l, s)
			_, err := check.Try(lens.Defs{}, l, s)
			switch last {
			case "id":
				if f.Bad() || err != nil || !typ.Same(p.View, s) || !check.Fit(typ.Defs{}, p.View, s) {
					t.Error(word, f, f.At, err)
				}
			case "copy":
				if f != (api.Fault{Errno: api.ErrLens, At: 5}) || fault.Depth(err) < n+1 {
					t.Error(word, f, f.At, fault.Depth(err))
				}
			default:
				if f != (api.Fault{Errno: api.ErrName, At: 5}) || fault.Depth(err) < n+1 {
					t.Error(word, f, f.At, fault.Depth(err))
				}
			}
		}
	}
	// Unions are looked at as wholes, one behind the other.
	l, s := grind.Lens("{plunge: k}"), spell.Type("str")
	for i := range 300 {
		l = lens.Lens{Kind: lens.Union, Kids: []lens.Lens{l, {Kind: lens.Id}}}
		s = typ.Type{Kind: typ.Union, Items: []typ.Type{s, {Kind: typ.Scalar, Tag: fmt.Sprintf("!t%d", i)}}}
	}
	p, f := check.Check(lens.Defs{}, l, s)
	if want := strings.Replace(typ.Show(s), "str", "{map k:str}", 1); f.Bad() || typ.Show(p.View) != want {
		t.Error(f, f.At)
	}
	// So are types that a lens makes.
	c := lens.Lens{Kind: lens.Compose}
	for range n {
		c.Kids = append(c.Kids, lens.Lens{Kind: lens.Plunge, Name: "k"})
	}
	for range n {
		c.Kids = append(c.Kids, lens.Lens{Kind: lens.Hoist, Name: "k"})
	}
	if p, f := check.Check(lens.Defs{}, c, spell.Type("str")); f.Bad() || typ.Show(p.View) != "str" || len(p.Kids) != 2*n {
		t.Error(f, f.At)
	}
	c.Kids = append(c.Kids, lens.Lens{Kind: lens.Hoist, At: 3, Name: "k"})
	if _, f := check.Check(lens.Defs{}, c, spell.Type("str")); f != (api.Fault{Errno: api.ErrLens, At: 3}) {
		t.Error(f, f.At)
	}
}

// R1: so are wide ones.
func TestWide(t *testing.T) {
	const n = 1 << 14
	r, o := typ.Type{Kind: typ.Record, Tag: "map"}, typ.Type{Kind: typ.Record, Tag: "map"}
	var keys, later []string
	var kids []lens.Lens
	var values []value.Value
	for i := range n {
		key := fmt.Sprintf("k%06d", i)
		keys, later = append(keys, key), append(later, fmt.Sprintf("l%06d", n-i))
		r.Fields = append(r.Fields, typ.Field{Key: key, Type: spell.Type("str")})
		o.Fields = append(o.Fields, typ.Field{Key: later[0][:1] + key, Optional: true, Type: spell.Type("int")})
		kids = append(kids, lens.Lens{Kind: lens.Plunge, At: i, Name: "p"})
		values = append(values, carve.Str("x"))
	}
	hold := func(l lens.Lens, s typ.Type, fields int) {
		t.Helper()
		p, f := check.Check(lens.Defs{}, l, s)
		if f.Bad() || len(p.View.Fields) != fields || !slices.IsSortedFunc(p.View.Fields, func(a, b typ.Field) int { return strings.Compare(a.Key, b.Key) }) {
			t.Errorf("%d: %v at %d, %d fields", l.Kind, f, f.At, len(p.View.Fields))
		}
	}
	hold(lens.Lens{Kind: lens.Project, Keys: keys}, r, n)
	hold(lens.Lens{Kind: lens.Project, Keys: keys[:1], Drops: keys[1:], Values: values[1:]}, r, 1)
	hold(lens.Lens{Kind: lens.Rename, Keys: keys, Words: later}, r, n)
	hold(lens.Lens{Kind: lens.Sink, Name: "k", Keys: keys}, r, 1)
	hold(lens.Lens{Kind: lens.Sink, Name: "k", Keys: keys[:1]}, r, n)
	hold(lens.Lens{Kind: lens.On, Keys: keys, Kids: kids}, r, n)
	hold(lens.Lens{Kind: lens.Fill, Name: o.Fields[n/2].Key, Values: []value.Value{carve.Scalar("int", "1")}}, o, n)
	hold(lens.Lens{Kind: lens.Compose, Kids: []lens.Lens{{Kind: lens.Plunge, Name: "a"}, {Kind: lens.Lift, Name: "a"}}}, r, n)
	hold(lens.Lens{Kind: lens.Compose, Kids: slices.Repeat([]lens.Lens{{Kind: lens.Id}}, n)}, r, n)
	e := typ.Type{Kind: typ.Enum, Tag: "str", Words: keys}
	hold(lens.Lens{Kind: lens.Translate, Keys: keys, Words: later}, e, 0)
	u, items := typ.Type{Kind: typ.Union}, typ.Type{Kind: typ.List, Tag: "seq"}
	for _, k := range keys {
		u.Items = append(u.Items, typ.Type{Kind: typ.Scalar, Tag: "!" + k})
	}
	ids := slices.Repeat([]lens.Lens{{Kind: lens.Id}}, n)
	hold(lens.Lens{Kind: lens.Union, Kids: ids}, u, 0)
	items.Items = []typ.Type{u}
	words := make([]string, n-1)
	for i := range words {
		words[i] = ".!" + keys[i+1]
	}
	hold(lens.Lens{Kind: lens.Filter, Words: words}, items, 0)
	// A definition for each, and one that uses all.
	var d lens.Defs
	on := lens.Lens{Kind: lens.On, Keys: keys, Kids: nil}
	for _, k := range keys {
		d.Names = append(d.Names, k)
		d.Lenses = append(d.Lenses, lens.Def{Source: spell.Type("str"), View: spell.Type("{map p:str}"), Lens: kids[0]})
		on.Kids = append(on.Kids, lens.Lens{Kind: lens.Use, Name: k})
	}
	env, f := check.Ready(d)
	if f.Bad() || len(env.Plans) != n {
		t.Error(f, f.At)
	}
	if p, f := check.Check(env.Defs, on, r); f.Bad() || typ.Show(p.View.Fields[n-1].Type) != "{map p:str}" {
		t.Error(f, f.At)
	}
}

// scrap makes parts of types, lenses and definitions as they fall, that may be wrong in every way.
type scrap struct{ *rand.Rand }

// scraps are texts of all sorts.
var scraps = []string{"", "a", "b", "c", "f", "g", "k", "str", "int", "map", "seq", "!t", ".str", "{map", "[seq", "\xff", strings.Repeat("a", 1025)}

// text is some text.
func (m scrap) text() string { return scraps[m.Intn(len(scraps))] }

// texts are some texts.
func (m scrap) texts() []string {
	var l []string
	for range m.Intn(4) {
		l = append(l, m.text())
	}
	if m.Intn(3) > 0 {
		slices.Sort(l)
	}
	return l
}

// place is some number.
func (m scrap) place() int { return []int{0, 1, -1, math.MaxInt, math.MinInt}[m.Intn(5)] }

// typ makes a type.
func (m scrap) typ(deep int) typ.Type {
	t := typ.Type{Kind: typ.Kind(m.Intn(12) - 1), At: m.place(), Tag: m.text(), Name: m.text(), Words: m.texts()}
	if m.Intn(2) == 0 {
		t.Tag = []string{"str", "map", "seq"}[m.Intn(3)]
	}
	if deep > 0 {
		for range m.Intn(4) {
			t.Fields = append(t.Fields, typ.Field{Key: m.text(), Optional: m.Intn(2) == 0, Type: m.typ(deep - 1)})
		}
		for range m.Intn(3) {
			t.Items = append(t.Items, m.typ(deep-1))
		}
	}
	return t
}

// lens makes a lens.
func (m scrap) lens(deep int) lens.Lens {
	l := lens.Lens{Kind: lens.Kind(m.Intn(22) - 1), At: m.place(), Name: m.text(), Keys: m.texts(), Words: m.texts(), Drops: m.texts()}
	if deep > 0 {
		for range m.Intn(4) {
			l.Kids = append(l.Kids, m.lens(deep-1))
		}
	}
	for range m.Intn(3) {
		l.Values = append(l.Values, []value.Value{{}, carve.Str("x"), carve.Scalar("int", "1"), carve.Seq(), carve.Map(""), carve.Leaf(3), {Kind: 7}}[m.Intn(7)])
	}
	if m.Intn(3) > 0 { // so that layer 17 lets many stand
		texts := grind.Lens(all[m.Intn(len(all))].lens)
		texts.At = l.At
		if len(texts.Kids) > 0 && deep > 0 && m.Intn(2) == 0 {
			texts.Kids[m.Intn(len(texts.Kids))] = m.lens(deep - 1)
		}
		l = texts
	}
	return l
}

// defs makes definitions.
func (m scrap) defs() lens.Defs {
	var d lens.Defs
	d.Types.Names, d.Names = m.texts(), m.texts()
	for range m.Intn(4) {
		d.Types.Types = append(d.Types.Types, m.typ(2))
		d.Lenses = append(d.Lenses, lens.Def{Source: m.typ(1), View: m.typ(1), Lens: m.lens(1)})
	}
	return d
}

// R1: whatever is handed in, each call ends, and none panics; R2: what stands beside a fault, or a false, is zero.
func TestScrap(t *testing.T) {
	m := scrap{rand.New(rand.NewSource(18))}
	met := map[api.Errno]int{}
	for range 40000 {
		d, l, s := m.defs(), m.lens(2), m.typ(2)
		p, f := check.Check(d, l, s)
		q, err := check.Try(d, l, s)
		if f != fault.Of(err) || f.Bad() && !reflect.DeepEqual(p, check.Plan{}) || !reflect.DeepEqual(p, q) {
			t.Fatalf("%+v by %+v with %+v: %v at %d, %v: %+v", l, s, d, f, f.At, err, p)
		}
		met[f.Errno]++
		e, g := check.Ready(d)
		plans, h := check.Program(d)
		if g != h || g.Bad() && (!reflect.DeepEqual(e, check.Env{}) || len(plans) > 0) {
			t.Fatalf("%+v: %v, %v, %+v, %+v", d, g, h, e, plans)
		}
		met[g.Errno]++
		e = check.Env{Defs: d, Plans: make([]check.Plan, m.Intn(4))}
		if p, ok := e.Find(m.text()); !ok && !reflect.DeepEqual(p, check.Plan{}) {
			t.Fatalf("%+v: %+v", e, p)
		}
		if check.Fit(d.Types, s, m.typ(1)) && check.Word(l.Kind) == "" {
			t.Fatal(l.Kind)
		}
	}
	if met[api.OK] < 2000 || met[api.ErrLens] < 2000 || met[api.ErrForm] < 2000 || met[api.ErrName] < 100 {
		t.Error(met)
	}
}
