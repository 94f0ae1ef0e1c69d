package lens_test

import (
	"math"
	"slices"
	"strings"
	"testing"

	"stanhope/grind"
	"stanhope/lens"
)

// asked are the keys of which is asked whether they are kept.
var asked = []string{"a", "b", "c", "k", "", "é", "noise", "\xff", strings.Repeat("a", 1025)}

// used are definitions that the tables' lenses use.
const used = "{all: id, b: {project: {keep: [b]}}, bc: {compose: [{rename: {a: d}}, {project: {keep: [b, c, d]}}]}, end: {use: none}, far: {use: to}, few: {union: [{use: b}, {use: bc}]}, " +
	"held: {on: {a: {use: held}}}, holds: {compose: [{use: held}, {map: {use: holds}}]}, many: {compose: [{use: few}, {use: few}, {use: b}]}, mapped: {map: {use: mapped}}, " +
	"ring: {union: [id, {use: ring2}]}, ring2: {compose: [{use: ring3}, id]}, ring3: {use: ring}, self: {use: self}, to: {use: ring}}"

// P17.3: which of the asked keys each lens keeps: all but, or just those that are told.
func TestKeeps(t *testing.T) {
	const none = "."
	for _, c := range []struct{ text, but, just string }{
		{"id", "", ""},
		{"copy", "", none},
		{"{const: {view: x, default: y}}", "", none},
		{"{hoist: a}", "", none},
		{"{plunge: a}", "", none},
		{"{filter: [a]}", "", none},
		{"{map: id}", "", none},
		{"{items: id}", "", none},
		{"{keyed: id}", "", none},
		{"{translate: {a: b}}", "", none},
		{"{project: {keep: []}}", "", none},
		{"{project: {keep: [a, c]}}", "", "a c"},
		{"{project: {keep: [k], default: {a: x, b: y}}}", "", "k"},
		{"{rename: {a: k}}", "a k", ""},
		{"{rename: {a: b, b: a}}", "a b", ""},
		{"{rename: {a: a}}", "a", ""},
		{"{rename: {x: y}}", "", ""},
		{"{lift: a}", "a", ""},
		{"{lift: x}", "", ""},
		{"{fill: {key: b, value: a}}", "b", ""},
		{"{sink: {into: k, keys: [a, b]}}", "k a b", ""},
		{"{sink: {into: a, keys: [a, c]}}", "a c", ""},
		{"{on: {a: id}}", "", ""},
		{"{on: {a: copy}}", "a", ""},
		{"{on: {a: id, b: {project: {keep: []}}, c: id, k: {use: all}}}", "b k", ""},
		{"{on: {a: {compose: [id]}, b: {rename: {x: y}}}}", "a b", ""},
		{"{compose: [id, id]}", "", ""},
		{"{compose: [id, copy]}", "", none},
		{"{compose: [copy, id]}", "", none},
		{"{compose: [{lift: a}, id, {fill: {key: b, value: x}}]}", "a b", ""},
		{"{compose: [{project: {keep: [a, b]}}, {rename: {a: c}}]}", "", "b"},
		{"{compose: [{project: {keep: [a, b, c]}}, {compose: [{project: {keep: [b, c, k]}}]}]}", "", "b c"},
		{"{union: [id, {lift: k}]}", "k", ""},
		{"{union: [{project: {keep: [a, k]}}, {project: {keep: [b, k]}}, id]}", "", "k"},
		{"{union: [id, id, {hoist: a}]}", "", none},
		{"{union: [{compose: [id, {union: [{lift: a}, {lift: b}]}]}, {lift: c}]}", "a b c", ""},
		// There is no Kid that doesn't.
		{"{compose: []}", "", ""},
		{"{union: []}", "", ""},
		// Uses.
		{"{use: all}", "", ""},
		{"{use: b}", "", "b"},
		{"{use: bc}", "", "b c"},
		{"{use: few}", "", "b"},
		{"{use: many}", "", "b"},
		{"{use: held}", "a", ""},
		{"{use: holds}", "", none},
		{"{use: mapped}", "", none},
		{"{compose: [{use: all}, {use: bc}, {use: all}, {use: bc}]}", "", "b c"},
		{"{union: [{use: held}, {compose: [{use: all}, {lift: b}]}]}", "a b", ""},
		// Uses that lead to what turns, or isn't defined.
		{"{use: none}", "", none},
		{"{use: ''}", "", none},
		{"{use: self}", "", none},
		{"{use: ring}", "", none},
		{"{use: ring3}", "", none},
		{"{use: to}", "", none},
		{"{use: far}", "", none},
		{"{use: end}", "", none},
		{"{compose: [id, {use: far}]}", "", none},
		{"{union: [{use: end}, id]}", "", none},
		{"{on: {a: id, b: {use: self}, c: {use: none}}}", "b c", ""},
	} {
		d := grind.Defs(used)
		for _, key := range asked {
			want := !slices.Contains(strings.Fields(c.but), key)
			if c.just != "" {
				want = slices.Contains(strings.Fields(c.just), key)
			}
			l := of(c.text)
			if got := d.Keeps(l, key); got != want {
				t.Errorf("%s: %q %v", c.text, key, got)
			}
			if got := grind.NoisyDefs(d).Keeps(grind.Noisy(l), key); got != want {
				t.Errorf("%s, with what plays no part: %q %v", c.text, key, got)
			}
		}
	}
}

// P17.3: the key that is empty is one as others are.
func TestKeepsEmpty(t *testing.T) {
	for s, want := range map[string]bool{
		"{project: {keep: ['']}}": true, "{project: {keep: [a]}}": false, "{rename: {'': a}}": false, "{rename: {a: ''}}": false, "{lift: ''}": false, "{lift: a}": true,
		"{fill: {key: '', value: x}}": false, "{sink: {into: '', keys: [a]}}": false, "{sink: {into: a, keys: ['', b]}}": false, "{on: {'': copy}}": false, "{on: {'': id}}": true,
	} {
		if got := (lens.Defs{}).Keeps(of(s), ""); got != want {
			t.Errorf("%s: %v", s, got)
		}
	}
}

// P17.3: of lenses that aren't as told, too: lists that don't rise, keys that stand twice, and are no keys.
func TestKeepsOdd(t *testing.T) {
	long := a(1025)
	id, copied := lens.Lens{Kind: lens.Id}, lens.Lens{Kind: lens.Copy}
	on := func(keys string, kids ...lens.Lens) lens.Lens {
		return lens.Lens{Kind: lens.On, Keys: strings.Fields(keys), Kids: kids}
	}
	for _, c := range []struct {
		l       lens.Lens
		yes, no []string
	}{
		{of("{project: {keep: [c, b, a]}}"), []string{"a", "b", "c"}, []string{"d", ""}},
		{of("{project: {keep: [b, a], default: {b: x, a: y}}}"), []string{"a", "b"}, []string{"c"}},
		{of("{sink: {into: k, keys: [c, b, a]}}"), []string{"d"}, []string{"a", "b", "c", "k"}},
		{of("{rename: {c: f, b: e, a: d}}"), []string{"g"}, []string{"a", "b", "c", "d", "e", "f"}},
		{lens.Lens{Kind: lens.Rename, Keys: []string{"a"}, Words: []string{"z", "y", "x"}}, []string{"b"}, []string{"a", "x", "y", "z"}},
		{lens.Lens{Kind: lens.Project, Keys: []string{"\xff", long}}, []string{"\xff", long}, []string{"\xfe", "\ufffd", a(1024)}},
		{lens.Lens{Kind: lens.Lift, Name: "\xff"}, []string{"\xfe", "\ufffd", ""}, []string{"\xff"}},
		// The first Kid counts.
		{on("a a", id, copied), []string{"a", "b"}, nil},
		{on("a a", copied, id), []string{"b"}, []string{"a"}},
		{on("b a b a", id, copied, copied, id), []string{"b", "c"}, []string{"a"}},
		{on("c b a", id, copied, id), []string{"a", "c"}, []string{"b"}},
		// There is none.
		{on("a b", id), []string{"a", "c"}, []string{"b"}},
		{on("a"), []string{"b"}, []string{"a"}},
		{on("a", id, copied, id), []string{"a", "b"}, nil},
		{on("", copied), []string{"a", ""}, nil},
		{lens.Lens{Kind: lens.Lift, Name: "a", Keys: []string{"b"}}, []string{"b"}, []string{"a"}},
	} {
		for _, k := range c.yes {
			if !(lens.Defs{}).Keeps(c.l, k) {
				t.Errorf("%+v doesn't keep %q", c.l, k)
			}
		}
		for _, k := range c.no {
			if (lens.Defs{}).Keeps(c.l, k) {
				t.Errorf("%+v keeps %q", c.l, k)
			}
		}
	}
	for _, k := range append(odd, math.MinInt+1) {
		l := lens.Lens{Kind: k, Name: "b", Keys: []string{"a"}, Kids: []lens.Lens{id}}
		if (lens.Defs{}).Keeps(l, "a") || (lens.Defs{}).Keeps(lens.Lens{Kind: lens.Compose, Kids: []lens.Lens{id, l}}, "c") {
			t.Error(k)
		}
	}
}

// R1, R6: of definitions whose names don't rise, or that aren't as many as the lenses, there is an end.
func TestOdd(t *testing.T) {
	for _, names := range []string{"", "a", "b", "a b", "b a", "a a", "c b a", "a b c", "b b b a", "x a y"} {
		for n := range 5 {
			d := lens.Defs{Names: strings.Fields(names)}
			for _, s := range []string{"{use: a}", "{map: {use: b}}", "{compose: [{use: a}, {use: b}]}", "{union: [{use: b}, {items: {use: c}}]}"}[:n] {
				d.Lenses = append(d.Lenses, lens.Def{Lens: of(s)})
			}
			d.Turns()
			for _, k := range []string{"a", "b", "c", ""} {
				d.Find(k)
				for _, x := range d.Lenses {
					d.Keeps(x.Lens, k)
				}
			}
		}
	}
}
