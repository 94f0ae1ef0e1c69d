package lens_test

import (
	"math"
	"reflect"
	"slices"
	"strings"
	"testing"

	"stanhope/api"
	"stanhope/carve"
	"stanhope/grind"
	"stanhope/lens"
	"stanhope/spell"
	"stanhope/value"
)

// a is a text of that many a.
func a(n int) string { return strings.Repeat("a", n) }

// of is the lens of a text.
var of = grind.Lens

// kinds are all kinds, in the order of their numbers.
var kinds = []lens.Kind{
	lens.Id, lens.Copy, lens.Const, lens.Compose, lens.Project, lens.Rename, lens.Hoist, lens.Plunge, lens.Lift, lens.Sink,
	lens.Filter, lens.Map, lens.Items, lens.Keyed, lens.On, lens.Union, lens.Fill, lens.Translate, lens.Use,
}

// odd are numbers that are no kind's.
var odd = []lens.Kind{0, -1, 20, 21, 255, math.MinInt, math.MaxInt}

func TestKinds(t *testing.T) {
	if len(kinds) != 19 {
		t.Error(len(kinds))
	}
	for i, k := range kinds {
		if int(k) != i+1 {
			t.Error(i, k)
		}
	}
}

// The chapter's example 1.
func TestExample(t *testing.T) {
	l := lens.Lens{Kind: lens.Compose, Kids: []lens.Lens{
		{Kind: lens.Project, Keys: []string{"a", "b"}},
		{Kind: lens.Rename, Keys: []string{"a"}, Words: []string{"c"}},
	}}
	if f := l.Check(); f.Bad() || l.Size() != 3 {
		t.Error(f, f.At, l.Size())
	}
	for key, want := range map[string]bool{"a": false, "b": true, "c": false, "d": false} {
		if got := (lens.Defs{}).Keeps(l, key); got != want {
			t.Error(key, got)
		}
	}
}

// P17.1: literals.
func TestLiteral(t *testing.T) {
	for _, v := range []value.Value{
		carve.Str("x"), carve.Str(""), carve.Str(a(1024)), carve.Scalar("null", ""), carve.Scalar("bool", "true"), carve.Scalar("int", "-12"), carve.Scalar("!a", "x"),
		carve.Seq(), carve.Map(""), carve.Tagged("!s", carve.Seq()), carve.Tagged("!m", carve.Map("")),
	} {
		if !lens.Literal(v) || !lens.Literal(carve.Noisy(v)) {
			t.Errorf("%+v is none", v)
		}
	}
	for _, v := range strange() {
		if lens.Literal(v) || lens.Literal(carve.Noisy(v)) {
			t.Errorf("%+v is one", v)
		}
	}
}

// strange are values that are no literals: some may not be, others have Kids, or are leaves.
func strange() []value.Value {
	return []value.Value{
		{}, {Kind: 5, Tag: "str"}, {Kind: -1, Tag: "str"}, {Kind: value.Scalar}, {Kind: value.Seq}, {Kind: value.Map},
		carve.Leaf(0), carve.Leaf(-1),
		carve.Seq(carve.Str("x")), carve.Seq(carve.Seq()), carve.Map("a", carve.Str("x")), carve.Seq(carve.Leaf(0)), carve.Tagged("!s", carve.Seq(carve.Str("x"))),
		carve.Scalar("int", "x"), carve.Scalar("null", "~"), carve.Scalar("bool", ""), carve.Scalar("foo", "x"), carve.Scalar("seq", "x"), carve.Scalar("!", "x"), carve.Scalar("!"+a(33), "x"),
		carve.Str("\xff"), carve.Str(a(1025)), carve.Scalar("!a", "a\xc3"),
		carve.Tagged("map", carve.Seq()), carve.Tagged("str", carve.Seq()), carve.Tagged("seq", carve.Map("")), carve.Tagged("", carve.Map("")), carve.Tagged("!a b", carve.Seq()),
		{Kind: value.Map, Tag: "map", Keys: []string{"a"}}, {Kind: value.Seq, Tag: "seq", Kids: []value.Value{{}}}, {Kind: value.Map, Tag: "map", Kids: []value.Value{carve.Str("x")}},
	}
}

// P17.1: how many lenses there are, and the names that they use.
func TestTold(t *testing.T) {
	for _, c := range []struct {
		text string
		size int
		uses string
	}{
		{"id", 1, ""},
		{"copy", 1, ""},
		{"{const: {view: x, default: y}}", 1, ""},
		{"{project: {keep: [a, b], default: {c: x, d: y}}}", 1, ""},
		{"{rename: {a: b, b: a}}", 1, ""},
		{"{hoist: k}", 1, ""},
		{"{plunge: k}", 1, ""},
		{"{lift: k}", 1, ""},
		{"{sink: {into: k, keys: [a]}}", 1, ""},
		{"{filter: [.str]}", 1, ""},
		{"{fill: {key: k, value: x}}", 1, ""},
		{"{translate: {a: b}}", 1, ""},
		{"{use: f}", 1, "f"},
		{"{compose: [id]}", 2, ""},
		{"{compose: []}", 1, ""},
		{"{compose: [{use: g}, {use: f}, {use: g}]}", 4, "f g"},
		{"{union: [{use: f}, id]}", 3, "f"},
		{"{map: {use: f}}", 2, "f"},
		{"{items: {use: f}}", 2, "f"},
		{"{keyed: {use: f}}", 2, "f"},
		{"{map: [{use: f}, {use: g}, id]}", 4, "f g"},
		{"{on: {a: {use: b}, c: {use: a}, d: {use: b}}}", 4, "a b"},
		{"{on: {a: {items: {use: B}}, c: {union: [{use: a}, {use: aa}]}, d: {compose: [{map: {use: A}}, {use: b}, id]}}}", 11, "A B a aa b"},
		{"{union: [{compose: [{map: {keyed: {items: {on: {k: {use: f}}}}}}]}, {use: e}]}", 8, "e f"},
	} {
		for _, l := range []lens.Lens{of(c.text), grind.Noisy(of(c.text))} {
			if got := l.Uses(); l.Size() != c.size || !slices.Equal(got, strings.Fields(c.uses)) {
				t.Errorf("%s: %d, %q", c.text, l.Size(), got)
			}
		}
	}
	// Names are told whatever they are, and Kids as many as there are.
	use := func(s string) lens.Lens { return lens.Lens{Kind: lens.Use, Name: s} }
	l := lens.Lens{Kind: lens.On, Keys: []string{"a"}, Kids: []lens.Lens{use("f"), use(""), use("\xff"), use("a b"), use(a(2000)), use("")}}
	if got := l.Uses(); l.Size() != 7 || !slices.Equal(got, []string{"", "a b", a(2000), "f", "\xff"}) {
		t.Errorf("%d, %q", l.Size(), got)
	}
	for _, k := range append(odd, lens.Id, lens.Use, lens.Filter, lens.Fill) {
		l := lens.Lens{Kind: k, Name: "f", Kids: []lens.Lens{use("g"), use("h")}}
		if got := l.Uses(); l.Size() != 1 || len(got) != map[lens.Kind]int{lens.Use: 1}[k] {
			t.Errorf("%d: %d, %q", k, l.Size(), got)
		}
	}
}

// P17.2: the definition of a name.
func TestFind(t *testing.T) {
	names := []string{"", "-", "0", "A", "B", "_", "a", "aa", "b", "f-1", "f1"}
	all := lens.Defs{Types: spell.Defs("t=str")}
	for i, n := range names {
		all.Names = append(all.Names, n)
		all.Lenses = append(all.Lenses, lens.Def{Source: spell.Type("$" + n), View: spell.Type("any"), Lens: lens.Lens{Kind: lens.Use, At: i, Name: n}})
		for _, c := range append(names, "a ", "ab", "aaa", "z", "\x00", "C", "f", "f-", "f-10", a(2000), "\xff") {
			k := slices.Index(names[:i+1], c)
			got, ok := all.Find(c)
			if ok != (k >= 0) || ok && !reflect.DeepEqual(got, all.Lenses[k]) || !ok && !reflect.DeepEqual(got, lens.Def{}) {
				t.Errorf("%q of %q: %+v, %v", c, all.Names, got, ok)
			}
		}
	}
	if d, ok := (lens.Defs{}).Find(""); ok || !reflect.DeepEqual(d, lens.Def{}) {
		t.Errorf("%+v, %v", d, ok)
	}
}

// R4: nil and empty lists are one.
func TestEmpty(t *testing.T) {
	for _, s := range []string{"id", "{compose: []}", "{project: {keep: []}}", "{filter: []}", "{on: {}}", "{use: f}", "{sink: {into: k, keys: []}}", "{map: []}", "{rename: {}}", "{translate: {}}"} {
		l := of(s)
		l.Keys, l.Words, l.Drops, l.Kids, l.Values = nil, nil, nil, nil, nil
		m := l
		m.Keys, m.Words, m.Drops, m.Kids, m.Values = []string{}, []string{}, []string{}, []lens.Lens{}, []value.Value{}
		d, e := lens.Defs{}, lens.Defs{Names: []string{}, Lenses: []lens.Def{}}
		if l.Check() != m.Check() || m.Size() != 1 || len(m.Uses()) != len(l.Uses()) || d.Keeps(l, "a") != e.Keeps(m, "a") || e.Turns().Bad() {
			t.Errorf("%s: %v, %d, %q", s, m.Check(), m.Size(), m.Uses())
		}
	}
	v := carve.Seq()
	v.Keys, v.Kids = []string{}, []value.Value{}
	if !lens.Literal(v) {
		t.Error(v)
	}
}

// P17.4: without definitions a lens without Uses turns nowhere; what a lens keeps, each of a Compose does.
func TestAlone(t *testing.T) {
	if f := (lens.Defs{}).Turns(); f != (api.Fault{}) {
		t.Error(f, f.At)
	}
	for _, x := range right {
		for _, y := range right {
			l, m := of(x), of(y)
			c := lens.Lens{Kind: lens.Compose, Kids: []lens.Lens{l, m, l}}
			for _, k := range asked {
				d := lens.Defs{}
				if d.Keeps(c, k) != (d.Keeps(l, k) && d.Keeps(m, k)) {
					t.Errorf("%s and %s: %q %v", x, y, k, d.Keeps(c, k))
				}
			}
			if len(c.Uses()) > 0 {
				continue
			}
			d := lens.Defs{Names: []string{"a", "b"}, Lenses: []lens.Def{{Lens: c}, {Lens: m}}}
			if f := d.Turns(); f != (api.Fault{}) {
				t.Errorf("%s and %s: %v at %d", x, y, f, f.At)
			}
		}
	}
}
