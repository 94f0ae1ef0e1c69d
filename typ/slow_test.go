package typ_test

import (
	"fmt"
	"math/rand"
	"reflect"
	"slices"
	"sort"
	"strings"
	"testing"
	"unicode/utf8"

	"stanhope/api"
	"stanhope/char"
	"stanhope/quote"
	"stanhope/resolve"
	"stanhope/spell"
	"stanhope/style"
	"stanhope/typ"
)

// slow is what the chapter says of types, said again in its words, with the definitions as a map.
type slow map[string]typ.Type

// slowly are definitions whose names are unlike, slowly.
func slowly(d typ.Defs) slow {
	s := slow{}
	for i, n := range d.Names {
		s[n] = d.Types[i]
	}
	return s
}

// resolved is what a type is, and false with what is wrong, if it can't be resolved.
func (s slow) resolved(t typ.Type, met ...string) (typ.Type, api.Errno) {
	if t.Kind != typ.Name {
		return t, api.OK
	}
	to, ok := s[t.Name]
	if !ok {
		return typ.Type{}, api.ErrName
	}
	if slices.Contains(met, t.Name) {
		return typ.Type{}, api.ErrLoop
	}
	return s.resolved(to, append(met, t.Name)...)
}

// next are the Names to which a type leads by Items of Unions alone, and the types that are neither.
func next(t typ.Type) (names []string, ends []typ.Type) {
	switch t.Kind {
	case typ.Name:
		return []string{t.Name}, nil
	case typ.Union:
		for _, i := range t.Items {
			n, e := next(i)
			names, ends = append(names, n...), append(ends, e...)
		}
		return names, ends
	}
	return nil, []typ.Type{t}
}

// reach are all Names to which a type leads, and all types that are neither Names nor Unions.
func (s slow) reach(t typ.Type) (names []string, ends []typ.Type) {
	names, ends = next(t)
	for i := 0; i < len(names); i++ {
		if slices.Contains(names[:i], names[i]) {
			continue
		}
		n, e := next(s[names[i]])
		if _, ok := s[names[i]]; ok {
			names, ends = append(names, n...), append(ends, e...)
		}
	}
	return names, ends
}

// heads are a type's heads; whether some are lacking, and whether a Name that leads back to itself is reached.
func (s slow) heads(t typ.Type) (heads []string, lacks, turns bool) {
	names, ends := s.reach(t)
	for _, n := range names {
		to, ok := s[n]
		lacks = lacks || !ok
		if ok {
			back, _ := s.reach(to)
			turns = turns || slices.Contains(back, n)
		}
	}
	set := map[string]bool{}
	for _, e := range ends {
		sign := map[typ.Kind]string{typ.Scalar: ".", typ.Enum: ".", typ.List: "[", typ.Keyed: "[", typ.Record: "{"}[e.Kind]
		if sign == "" {
			lacks = true
			continue
		}
		set[sign+e.Tag] = true
	}
	for h := range set {
		heads = append(heads, h)
	}
	sort.Strings(heads)
	return heads, lacks, turns
}

// rising says whether texts rise.
func rising(l []string) bool {
	return sort.StringsAreSorted(l) && len(slices.Compact(slices.Clone(l))) == len(l)
}

// own is what is wrong with a type itself.
func (s slow) own(t typ.Type) api.Errno {
	scalar := slices.Contains([]string{"null", "bool", "int", "str"}, t.Tag) || resolve.Own(t.Tag)
	ok := false
	switch t.Kind {
	case typ.Scalar:
		ok = scalar
	case typ.Enum:
		ok = scalar && len(t.Words) > 0 && rising(t.Words)
		for _, w := range t.Words {
			ok = ok && resolve.Right(t.Tag, w)
		}
	case typ.Record:
		var keys []string
		ok = (t.Tag == "map" || resolve.Own(t.Tag)) && len(t.Items) < 2
		for _, f := range t.Fields {
			keys = append(keys, f.Key)
			ok = ok && utf8.ValidString(f.Key) && len(f.Key) <= 1024
		}
		ok = ok && rising(keys)
	case typ.List, typ.Keyed:
		ok = (t.Tag == "seq" || resolve.Own(t.Tag)) && len(t.Items) == 1 && (t.Kind == typ.List || utf8.ValidString(t.Name))
	case typ.Union:
		ok = len(t.Items) > 1
	case typ.Name:
		_, e := s.resolved(t)
		return e
	default:
		ok = t.Kind == typ.Dag || t.Kind == typ.Any
	}
	if !ok {
		return api.ErrForm
	}
	return api.OK
}

// whole is what is wrong with a type as a whole.
func (s slow) whole(t typ.Type) api.Errno {
	switch t.Kind {
	case typ.Keyed:
		r, _ := s.resolved(t.Items[0])
		for _, f := range r.Fields {
			k, _ := s.resolved(f.Type)
			if r.Kind == typ.Record && f.Key == t.Name && !f.Optional && (k.Kind == typ.Scalar || k.Kind == typ.Enum) {
				return api.OK
			}
		}
		return api.ErrForm
	case typ.Union:
		met := map[string]bool{}
		loop, form := false, false
		for _, i := range t.Items {
			heads, lacks, turns := s.heads(i)
			loop, form = loop || turns, form || lacks
			for _, h := range heads {
				form = form || met[h]
				met[h] = true
			}
		}
		if loop {
			return api.ErrLoop
		}
		if form {
			return api.ErrForm
		}
	}
	return api.OK
}

// check is what is wrong with a type.
func (s slow) check(t typ.Type) api.Fault {
	if e := s.own(t); e != api.OK {
		return api.Fault{Errno: e, At: t.At}
	}
	if t.Kind == typ.Record {
		for _, f := range t.Fields {
			if f := s.check(f.Type); f.Bad() {
				return f
			}
		}
	}
	if slices.Contains([]typ.Kind{typ.Record, typ.List, typ.Keyed, typ.Union}, t.Kind) {
		for _, i := range t.Items {
			if f := s.check(i); f.Bad() {
				return f
			}
		}
	}
	if e := s.whole(t); e != api.OK {
		return api.Fault{Errno: e, At: t.At}
	}
	return api.Fault{}
}

// checkDefs is what is wrong with definitions of as many types as names.
func checkDefs(d typ.Defs) api.Fault {
	for i, n := range d.Names {
		if !char.Name(n) || i > 0 && strings.Compare(d.Names[i-1], n) >= 0 {
			return api.Fault{Errno: api.ErrForm, At: d.Types[i].At}
		}
	}
	for _, t := range d.Types {
		if f := slowly(d).check(t); f.Bad() {
			return f
		}
	}
	return api.Fault{}
}

// show is a type's text.
func show(t typ.Type) string {
	var items []string
	for _, i := range t.Items {
		items = append(items, show(i))
	}
	switch t.Kind {
	case typ.Scalar:
		return t.Tag
	case typ.Enum:
		l := []string{t.Tag}
		for _, w := range t.Words {
			l = append(l, quote.Double(w))
		}
		return "<" + strings.Join(l, " ") + ">"
	case typ.Record:
		l := []string{t.Tag}
		for _, f := range t.Fields {
			l = append(l, style.Key(f.Key)+map[bool]string{true: "?"}[f.Optional]+":"+show(f.Type))
		}
		for _, i := range items {
			l = append(l, "*:"+i)
		}
		return "{" + strings.Join(l, " ") + "}"
	case typ.List:
		return fmt.Sprintf("[%s %s]", t.Tag, strings.Join(items, " "))
	case typ.Keyed:
		return fmt.Sprintf("[%s by %s %s]", t.Tag, style.Key(t.Name), strings.Join(items, " "))
	case typ.Union:
		return "(" + strings.Join(items, "|") + ")"
	case typ.Name:
		return "$" + t.Name
	case typ.Dag:
		return "dag"
	case typ.Any:
		return "any"
	}
	return "?"
}

// plain is a type without places, and without what plays no part.
func plain(t typ.Type) typ.Type {
	p := typ.Type{Kind: t.Kind}
	switch t.Kind {
	case typ.Scalar, typ.Enum, typ.Record, typ.List, typ.Keyed:
		p.Tag = t.Tag
	}
	switch t.Kind {
	case typ.Enum:
		p.Words = t.Words
	case typ.Keyed, typ.Name:
		p.Name = t.Name
	case typ.Record:
		for _, f := range t.Fields {
			p.Fields = append(p.Fields, typ.Field{Key: f.Key, Optional: f.Optional, Type: plain(f.Type)})
		}
	}
	switch t.Kind {
	case typ.Record, typ.List, typ.Keyed, typ.Union:
		for _, i := range t.Items {
			p.Items = append(p.Items, plain(i))
		}
	}
	return p
}

// hold holds all that is told of a type against what is told slowly; it answers what is wrong.
func hold(t *testing.T, d typ.Defs, x typ.Type) api.Fault {
	t.Helper()
	s, of := slowly(d), show(x)
	for i, n := range d.Names {
		of += " " + n + "=" + show(d.Types[i])
	}
	got, want := typ.Check(d, x), s.check(x)
	if got != want {
		t.Fatalf("%s: %v at %d, not %v at %d", of, got, got.At, want, want.At)
	}
	if f := typ.Check(d, spell.Noisy(x)); f.Errno != got.Errno || got.Bad() && f.At != spell.Noisy(typ.Type{At: got.At}).At {
		t.Fatalf("%s: %v at %d, with what plays no part %v at %d", of, got, got.At, f, f.At)
	}
	r, ok := typ.Resolve(d, x)
	if wanted, e := s.resolved(x); ok != (e == api.OK) || !reflect.DeepEqual(r, wanted) || r.Kind == typ.Name {
		t.Fatalf("%s: resolved %s, %v, not %s, %v", of, show(r), ok, show(wanted), e)
	}
	heads, ok := typ.Heads(d, x)
	if wanted, lacks, turns := s.heads(x); ok == (lacks || turns) || ok && !slices.Equal(heads, wanted) || !ok && len(heads) > 0 {
		t.Fatalf("%s: heads %q, %v, not %q, %v, %v", of, heads, ok, wanted, lacks, turns)
	}
	if shown := typ.Show(x); shown != show(x) {
		t.Fatalf("%s: %s", of, shown)
	}
	if !got.Bad() {
		if back := spell.Type(typ.Show(x)); !reflect.DeepEqual(plain(back), plain(x)) || !typ.Same(back, x) {
			t.Fatalf("%s: %+v", of, back)
		}
		if y, ok := typ.Resolve(d, x); !ok || y.Kind == typ.Name {
			t.Fatalf("%s: may be, but isn't resolved", of)
		}
	}
	return got
}

// Of these the small types consist: leaves, and what stands around one or two of them.
var (
	leaves = []string{"str", "int", "!a", "foo", "any", "$a", "$b", "$x", "{map}", "[seq ]", "()"}
	single = []string{"%s", "[seq %s]", "[seq by k {map k:%s}]", "[seq by k %s]", "{map k?:%s}", "{!a *:%s}", "(%s)"}
	double = []string{"(%s|%s)", "{map k:%s *:%s}"}
)

// small are all types that consist of one or two leaves, and what stands around them.
func small() []typ.Type {
	var l []typ.Type
	for _, x := range leaves {
		for _, f := range single {
			l = append(l, spell.Type(fmt.Sprintf(f, x)))
		}
		for _, y := range leaves {
			for _, f := range double {
				l = append(l, spell.Type(fmt.Sprintf(f, x, y)))
			}
		}
	}
	return l
}

// P15.1, P15.2: all small types with all pairs of some definitions, and these.
func TestSmall(t *testing.T) {
	all := small()
	var types []typ.Type
	for _, s := range []string{"str", "{map k:str}", "{map k:$b}", "$a", "$b", "$x", "(str|$a)", "(int|$b)", "(bool|(int|$b))", "any", "(str|str)", "()", "(null|$x)", "[seq $b]"} {
		types = append(types, spell.Type(s))
	}
	met := map[api.Errno]int{}
	for _, x := range types {
		for _, y := range types {
			x.At, y.At = 100, 200
			d := typ.Defs{Names: []string{"a", "b"}, Types: []typ.Type{x, y}}
			if got, want := d.Check(), checkDefs(d); got != want {
				t.Fatalf("%s and %s: %v at %d, not %v at %d", show(x), show(y), got, got.At, want, want.At)
			}
			for _, z := range all {
				met[hold(t, d, z).Errno]++
			}
		}
	}
	for _, e := range []api.Errno{api.OK, api.ErrForm, api.ErrName, api.ErrLoop} {
		if met[e] < 500 {
			t.Error(met)
		}
	}
}

// P15.3, P15.4: of all pairs of small types that may be, those are the same that show the same.
func TestPairs(t *testing.T) {
	d := spell.Defs("a=str b=bool x=[seq any]")
	var l []typ.Type
	var texts []string
	for _, x := range small() {
		if !typ.Check(d, x).Bad() {
			l = append(l, x)
			texts = append(texts, typ.Show(x))
		}
	}
	for i, x := range l {
		for j, y := range l {
			if got := typ.Same(x, spell.Noisy(y)); got != (texts[i] == texts[j]) || got != reflect.DeepEqual(plain(x), plain(y)) {
				t.Fatalf("%s and %s: same %v", texts[i], texts[j], got)
			}
		}
	}
	if len(l) < 80 {
		t.Error(len(l))
	}
}

// maker makes types as they fall.
type maker struct {
	*rand.Rand
	at    int
	names []string
	often int // one of how many choices is wrong
}

// odd says whether a choice is to be wrong.
func (m *maker) odd() bool { return m.Intn(m.often) == 0 }

// one is one of some texts.
func (m *maker) one(l ...string) string { return l[m.Intn(len(l))] }

// some are some of the texts, mostly rising.
func (m *maker) some(least int, l ...string) []string {
	var s []string
	for range least + m.Intn(4) {
		s = append(s, m.one(l...))
	}
	if !m.odd() {
		slices.Sort(s)
		s = slices.Compact(s)
	}
	return s
}

// tag is a tag of collections.
func (m *maker) tag(core string) string {
	if m.odd() {
		return m.one("str", "", "!", "seq", "map")
	}
	return m.one(core, core, "!a", "!b")
}

// items are so many types.
func (m *maker) items(n, deep int) []typ.Type {
	if m.odd() {
		n = m.Intn(4)
	}
	var l []typ.Type
	for range n {
		l = append(l, m.typ(deep-1))
	}
	return l
}

// typ makes a type that is no deeper.
func (m *maker) typ(deep int) typ.Type {
	m.at++
	t := typ.Type{At: m.at}
	t.Kind = typ.Kind(m.Intn(9) + 1)
	if deep <= 0 {
		t.Kind = []typ.Kind{typ.Scalar, typ.Enum, typ.Name, typ.Dag, typ.Any, typ.Scalar}[m.Intn(6)]
	}
	if m.Intn(50*m.often) == 0 {
		t.Kind = typ.Kind(m.Intn(30) - 10)
	}
	switch t.Kind {
	case typ.Scalar:
		t.Tag = m.one("null", "bool", "int", "str", "!a", "!b", "!c", "!d")
		if m.odd() {
			t.Tag = m.one("seq", "", "!", "map")
		}
	case typ.Enum:
		t.Tag = m.one("str", "int", "!a", "!b", "!c")
		words := map[string][]string{"int": {"0", "1", "-5", "12"}}[t.Tag]
		if words == nil || m.odd() {
			words = []string{"a", "b", "c d", "\n", "é", ""}
		}
		t.Words = m.some(1, words...)
	case typ.Record:
		t.Tag = m.tag("map")
		for _, k := range m.some(0, "k", "l", "a b", "", "*", "z?", "\"") {
			t.Fields = append(t.Fields, typ.Field{Key: k, Optional: m.Intn(3) == 0, Type: m.typ(deep - 1)})
		}
		t.Items = m.items(m.Intn(2), deep)
	case typ.List:
		t.Tag, t.Items = m.tag("seq"), m.items(1, deep)
	case typ.Keyed:
		t.Tag, t.Name, t.Items = m.tag("seq"), m.one("k", "k", "l", ""), m.items(1, deep)
		if len(t.Items) == 1 && !m.odd() {
			t.Items[0] = typ.Type{Kind: typ.Record, At: m.at, Tag: "!r", Fields: []typ.Field{{Key: t.Name, Type: m.typ(0)}}}
		}
	case typ.Union:
		t.Items = m.items(2+m.Intn(2), deep)
	case typ.Name:
		t.Name = m.one(m.names...)
		if m.odd() {
			t.Name = "none"
		}
	}
	return t
}

// P15.1 to P15.4: types and definitions as they fall.
func TestMade(t *testing.T) {
	m := maker{Rand: rand.New(rand.NewSource(15)), names: strings.Fields("a b c d e"), often: 40}
	met, defs := map[api.Errno]int{}, map[api.Errno]int{}
	for range 6000 {
		m.at = 0
		d := typ.Defs{Names: m.names}
		for range m.names {
			d.Types = append(d.Types, m.typ(m.Intn(3)))
		}
		got, want := d.Check(), checkDefs(d)
		if got != want {
			t.Fatalf("%+v: %v at %d, not %v at %d", d, got, got.At, want, want.At)
		}
		defs[got.Errno]++
		for range 8 {
			m.at = 1000
			x := m.typ(m.Intn(4))
			met[hold(t, d, x).Errno]++
			if y := spell.Noisy(x); typ.Same(x, y) != typ.Same(y, x) || !typ.Check(d, x).Bad() && !typ.Same(x, y) {
				t.Fatalf("%s: not the same as %+v", show(x), y)
			}
		}
	}
	for _, e := range []api.Errno{api.OK, api.ErrForm, api.ErrName, api.ErrLoop} {
		if met[e] < 250 || defs[e] < 50 {
			t.Error(met, defs)
		}
	}
}

// changed are all types that come of a type, if one thing in it is changed that plays a part.
func changed(t typ.Type) []typ.Type {
	var l []typ.Type
	with := func(change func(*typ.Type)) {
		x := plain(t)
		x.Words = slices.Clone(x.Words)
		change(&x)
		l = append(l, x)
	}
	switch t.Kind {
	case typ.Scalar, typ.Enum, typ.Record, typ.List, typ.Keyed:
		with(func(x *typ.Type) { x.Tag = "!changed" })
	}
	switch t.Kind {
	case typ.Enum:
		for i := range t.Words {
			with(func(x *typ.Type) { x.Words[i] += "x" })
			with(func(x *typ.Type) { x.Words = slices.Delete(x.Words, i, i+1) })
		}
	case typ.Keyed, typ.Name:
		with(func(x *typ.Type) { x.Name += "x" })
	case typ.Record:
		for i, f := range t.Fields {
			with(func(x *typ.Type) { x.Fields[i].Key += "x" })
			with(func(x *typ.Type) { x.Fields[i].Optional = !x.Fields[i].Optional })
			with(func(x *typ.Type) { x.Fields = slices.Delete(x.Fields, i, i+1) })
			for _, y := range changed(f.Type) {
				with(func(x *typ.Type) { x.Fields[i].Type = y })
			}
		}
	}
	switch t.Kind {
	case typ.Record, typ.List, typ.Keyed, typ.Union:
		for i, item := range t.Items {
			with(func(x *typ.Type) { x.Items = slices.Delete(x.Items, i, i+1) })
			for _, y := range changed(item) {
				with(func(x *typ.Type) { x.Items[i] = y })
			}
		}
		with(func(x *typ.Type) { x.Items = append(x.Items, typ.Type{Kind: typ.Any}) })
	}
	for _, k := range []typ.Kind{typ.Scalar, typ.Union, typ.Dag} {
		if t.Kind != k {
			with(func(x *typ.Type) { *x = typ.Type{Kind: k, Tag: "str"} })
		}
	}
	return l
}

// P15.3: with one thing changed, whether or not the type may be, neither is alike, and both show another text.
func TestChanged(t *testing.T) {
	m := maker{Rand: rand.New(rand.NewSource(3)), names: strings.Fields("a b"), often: 1 << 20}
	count := 0
	for range 1500 {
		x := m.typ(3)
		for _, y := range changed(x) {
			count++
			if typ.Same(x, y) || typ.Same(y, x) || typ.Show(x) == typ.Show(y) {
				t.Fatalf("%s and %s: the same", show(x), show(y))
			}
		}
	}
	if count < 10000 {
		t.Error(count)
	}
}
