package check_test

import (
	"reflect"
	"slices"
	"strings"
	"testing"

	"stanhope/api"
	"stanhope/check"
	"stanhope/grind"
	"stanhope/lens"
	"stanhope/spell"
	"stanhope/typ"
)

// faults are errors, and texts of definitions in each of which the place at which it is told is marked by ^; there is none, if nothing is wrong.
type faults []struct{ word, text string }

// hold holds what is told of the definitions that are written so.
func (l faults) hold(t *testing.T) {
	t.Helper()
	for _, c := range l {
		s, want := strings.Replace(c.text, "^", "", 1), c.text
		if c.word != "" {
			want = c.word + " at " + c.text
		}
		d := grind.Program(s)
		if got := told(s, program(t, d)); got != want {
			t.Errorf("%s, not %s", got, want)
		}
		if f := program(t, grind.NoisyProgram(d)); f.Word() != program(t, d).Word() {
			t.Errorf("%s, with what plays no part: %v", s, f)
		}
	}
}

// program is what is wrong with definitions; it holds all that is told of them together.
func program(t *testing.T, d lens.Defs) api.Fault {
	t.Helper()
	plans, f := check.Program(d)
	e, g := check.Ready(d)
	if f != g || f.Bad() && (len(plans) > 0 || !reflect.DeepEqual(e, check.Env{})) {
		t.Fatalf("Program tells %v at %d, Ready %v at %d: %+v, %+v", f, f.At, g, g.At, plans, e)
	}
	if f.Bad() {
		return f
	}
	if len(plans) != len(d.Names) || len(e.Plans) != len(plans) || !alike(e.Defs, d) {
		t.Fatalf("%d plans, %d plans: %+v, not %+v", len(plans), len(e.Plans), e.Defs, d)
	}
	for i, name := range d.Names {
		x := d.Lenses[i]
		want, f := check.Check(d, x.Lens, x.Source)
		got, ok := e.Find(name)
		if f.Bad() || !ok || !reflect.DeepEqual(got, want) || !reflect.DeepEqual(plans[i], want) || !check.Fit(d.Types, want.View, x.View) {
			t.Fatalf("%s: %v, %+v and %+v, not %+v", name, ok, got, plans[i], want)
		}
		for _, other := range []string{name + "0", name[:len(name)-1], "", "none"} {
			if p, ok := e.Find(other); ok != slices.Contains(d.Names, other) || !ok && !reflect.DeepEqual(p, check.Plan{}) {
				t.Fatalf("%s: %v, %+v", other, ok, p)
			}
		}
	}
	return f
}

// alike says whether definitions are alike, empty lists and none being one.
func alike(a, b lens.Defs) bool {
	return slices.Equal(a.Names, b.Names) && slices.Equal(a.Types.Names, b.Types.Names) &&
		slices.EqualFunc(a.Types.Types, b.Types.Types, func(x, y typ.Type) bool { return reflect.DeepEqual(x, y) }) &&
		slices.EqualFunc(a.Lenses, b.Lenses, func(x, y lens.Def) bool { return reflect.DeepEqual(x, y) })
}

// P18.2: definitions with which nothing is wrong.
func TestProgram(t *testing.T) {
	faults{
		{"", "{}"},
		{"", "{types: {a: str, b: $a}}"},
		{"", "{lenses: {f: {source: str, view: str, lens: id}}}"},
		{"", "{lenses: {f: {source: str, view: '{map k:str}', lens: {plunge: k}}, g: {source: any, view: any, lens: copy}}}"},
		{"", "{lenses: {'-': {source: str, view: str, lens: id}, '0': {source: str, view: str, lens: id}, A: {source: str, view: str, lens: id}, _: {source: str, view: str, lens: id}, a: {source: str, view: str, lens: id}}}"},
		{"", "{lenses: {" + strings.Repeat("a", 32) + ": {source: str, view: str, lens: id}}}"},
		// The View fits.
		{"", "{types: {s: str, t: $s}, lenses: {f: {source: str, view: $t, lens: id}, g: {source: $t, view: str, lens: id}, h: {source: $t, view: $s, lens: id}}}"},
		{"", "{types: {r: '{map k:$s}', s: str}, lenses: {f: {source: $s, view: $r, lens: {plunge: k}}}}"},
		// One that uses others, ahead of it or behind.
		{"", "{lenses: {a: {source: str, view: '{map k:str}', lens: {use: b}}, b: {source: str, view: '{map k:str}', lens: {plunge: k}}, c: {source: '[seq str]', view: '[seq {map k:str}]', lens: {items: {use: a}}}}}"},
		// Some that use themselves, or one another.
		{"", "{types: {t: '(str|[seq $t])'}, lenses: {f: {source: $t, view: $t, lens: {union: [id, {items: {use: f}}]}}}}"},
		{"", "{types: {t: '(str|[seq $t])', u: '({map k:str}|[seq $u])'}, lenses: {f: {source: $t, view: $u, lens: {union: [{plunge: k}, {items: {use: f}}]}}, g: {source: $u, view: $t, lens: {union: [{hoist: k}, {items: {use: g}}]}}}}"},
		{"", "{types: {t: '(str|[seq $t])'}, lenses: {f: {source: '[seq $t]', view: '[seq $t]', lens: {items: {use: g}}}, g: {source: $t, view: $t, lens: {union: [id, {items: {use: g}}]}}}}"},
	}.hold(t)
	if f := program(t, defs); f.Bad() {
		t.Error(f, f.At)
	}
	if f := program(t, grind.NoisyProgram(defs)); f.Bad() {
		t.Error(f, f.At)
	}
}

// P18.2: each error.
func TestProgramFaults(t *testing.T) {
	faults{
		// Layer 15's of the types.
		{"form", "{types: {a: '^(str)'}}"},
		{"form", "{types: {a: str, b: '[seq ^{map b:str a:str}]'}}"},
		{"form", "{types: {b: str, a: ^int}}"},
		{"form", "{types: {a b: ^str}}"},
		{"name", "{types: {a: '{map k:^$b}'}}"},
		{"loop", "{types: {a: ^$b, b: $a}}"},
		{"loop", "{types: {a: '^(str|$a)'}}"},
		// A name that is none, or doesn't rise.
		{"form", "{lenses: {'': {source: str, view: str, lens: ^id}}}"},
		{"form", "{lenses: {a b: {source: str, view: str, lens: ^id}}}"},
		{"form", "{lenses: {a.b: {source: str, view: str, lens: ^id}}}"},
		{"form", "{lenses: {'!a': {source: str, view: str, lens: ^id}}}"},
		{"form", "{lenses: {é: {source: str, view: str, lens: ^id}}}"},
		{"form", "{lenses: {" + strings.Repeat("a", 33) + ": {source: str, view: str, lens: ^id}}}"},
		{"form", "{lenses: {b: {source: str, view: str, lens: id}, a: {source: str, view: str, lens: ^id}}}"},
		{"form", "{lenses: {a: {source: str, view: str, lens: id}, c: {source: str, view: str, lens: id}, b: {source: str, view: str, lens: ^id}}}"},
		{"form", "{lenses: {a: {source: str, view: str, lens: id}, A: {source: str, view: str, lens: ^id}}}"},
		// Layer 15's of its Source, then its View.
		{"form", "{lenses: {f: {source: '[seq ^(str)]', view: str, lens: id}}}"},
		{"name", "{lenses: {f: {source: ^$a, view: str, lens: id}}}"},
		{"name", "{lenses: {f: {source: str, view: '[seq ^$a]', lens: id}}}"},
		{"form", "{types: {a: str}, lenses: {f: {source: $a, view: $a, lens: id}, g: {source: $a, view: '^(str|$a)', lens: id}}}"},
		// Layer 17's Check of its lens.
		{"form", "{lenses: {f: {source: str, view: str, lens: ^{compose: []}}}}"},
		{"form", "{lenses: {f: {source: str, view: str, lens: {compose: [id, ^{use: a b}]}}}}"},
		// Layer 17's Turns.
		{"name", "{lenses: {f: {source: str, view: str, lens: ^{use: g}}}}"},
		{"loop", "{lenses: {f: {source: str, view: str, lens: ^{use: f}}}}"},
		{"loop", "{lenses: {f: {source: str, view: str, lens: id}, g: {source: str, view: str, lens: {compose: [id, ^{use: h}]}}, h: {source: str, view: str, lens: {use: g}}}}"},
		// Check's, by its Source.
		{"lens", "{lenses: {f: {source: str, view: str, lens: ^copy}}}"},
		{"lens", "{lenses: {f: {source: '[seq str]', view: str, lens: {compose: [id, {items: ^copy}]}}}}"},
		{"lens", "{lenses: {f: {source: str, view: str, lens: id}, g: {source: int, view: str, lens: ^{use: f}}}}"},
		// The View doesn't fit.
		{"lens", "{lenses: {f: {source: str, view: int, lens: ^id}}}"},
		{"lens", "{lenses: {f: {source: str, view: '{map k:str}', lens: ^{compose: [{plunge: k}, {hoist: k}]}}}}"},
		{"lens", "{types: {s: str}, lenses: {f: {source: $s, view: '{map k:str}', lens: ^{plunge: k}}}}"},
		{"lens", "{types: {s: str}, lenses: {f: {source: str, view: str, lens: id}, g: {source: '[seq $s]', view: '[seq str]', lens: ^id}}}"},
		{"lens", "{lenses: {f: {source: '(str|int)', view: '(int|str)', lens: ^id}}}"},
	}.hold(t)
	// Unlike counts.
	d := grind.Program("{types: {a: str}, lenses: {f: {source: str, view: str, lens: id}, g: {source: str, view: str, lens: id}}}")
	for _, x := range []lens.Defs{
		{Types: d.Types, Names: d.Names, Lenses: d.Lenses[:1]},
		{Types: d.Types, Names: d.Names},
		{Types: d.Types, Names: d.Names[:1], Lenses: d.Lenses},
		{Types: d.Types, Lenses: d.Lenses},
		{Names: []string{"a b", "a"}, Lenses: []lens.Def{{}}},
	} {
		if f := program(t, x); f != (api.Fault{Errno: api.ErrForm}) {
			t.Errorf("%+v: %v at %d", x, f, f.At)
		}
	}
	// A name twice.
	d.Names[1] = "f"
	if f := program(t, d); f != (api.Fault{Errno: api.ErrForm, At: d.Lenses[1].Lens.At}) {
		t.Error(f, f.At)
	}
	d.Names[1] = "g"
	// More names than types, and a count that isn't right behind it.
	d.Types.Names = append(d.Types.Names, "b")
	d.Lenses = d.Lenses[:1]
	if f := program(t, d); f != (api.Fault{Errno: api.ErrForm}) {
		t.Error(f, f.At)
	}
	d.Types = spell.Defs("a=$b")
	d.Types.Types[0].At = 77
	if f := program(t, d); f != (api.Fault{Errno: api.ErrName, At: 77}) {
		t.Error(f, f.At)
	}
}

// P18.2: which of several is the first.
func TestProgramFirst(t *testing.T) {
	faults{
		{"form", "{types: {a: '^(str)'}, lenses: {'': {source: $x, view: $x, lens: {compose: []}}}}"},
		{"form", "{lenses: {'': {source: $x, view: $x, lens: ^{compose: []}}}}"},
		{"form", "{lenses: {b: {source: str, view: str, lens: id}, a: {source: $x, view: $x, lens: ^{use: x}}}}"},
		{"name", "{lenses: {a: {source: ^$x, view: '(str)', lens: {compose: []}}}}"},
		{"form", "{lenses: {a: {source: '^(str)', view: $x, lens: {compose: []}}}}"},
		{"name", "{lenses: {a: {source: str, view: ^$x, lens: {compose: []}}}}"},
		{"form", "{lenses: {a: {source: str, view: str, lens: {union: [{use: x}, ^{compose: []}]}}}}"},
		// Definition by definition.
		{"name", "{lenses: {a: {source: ^$x, view: str, lens: id}, '': {source: str, view: str, lens: id}}}"},
		{"name", "{lenses: {a: {source: str, view: ^$x, lens: id}, b: {source: '(str)', view: str, lens: id}}}"},
		{"form", "{lenses: {a: {source: str, view: str, lens: ^{compose: []}}, b: {source: $x, view: $x, lens: id}}}"},
		{"form", "{lenses: {b: {source: str, view: str, lens: ^{compose: []}}, a: {source: $x, view: $x, lens: id}}}"},
		{"form", "{lenses: {a: {source: str, view: str, lens: {use: x}}, b: {source: str, view: '^(str)', lens: id}}}"},
		// What each is for itself comes ahead of Turns, that ahead of what they lead to.
		{"form", "{lenses: {a: {source: str, view: str, lens: {use: x}}, b: {source: str, view: str, lens: ^{compose: []}}}}"},
		{"form", "{lenses: {a: {source: str, view: int, lens: copy}, b: {source: str, view: str, lens: ^{compose: []}}}}"},
		{"name", "{lenses: {a: {source: str, view: int, lens: copy}, b: {source: str, view: str, lens: ^{use: x}}}}"},
		{"loop", "{lenses: {a: {source: str, view: int, lens: copy}, b: {source: str, view: str, lens: ^{use: b}}}}"},
		{"name", "{lenses: {a: {source: str, view: str, lens: {compose: [copy, ^{use: x}]}}}}"},
		// Then definition by definition, the View behind the lens.
		{"lens", "{lenses: {a: {source: str, view: int, lens: {compose: [id, ^copy]}}, b: {source: str, view: int, lens: id}}}"},
		{"lens", "{lenses: {a: {source: str, view: int, lens: ^id}, b: {source: str, view: str, lens: copy}}}"},
		{"lens", "{lenses: {a: {source: str, view: str, lens: id}, b: {source: str, view: int, lens: ^copy}, c: {source: str, view: str, lens: copy}}}"},
	}.hold(t)
}

// P18.2: the plan of a name.
func TestFind(t *testing.T) {
	e, f := check.Ready(defs)
	if f.Bad() {
		t.Fatal(f, f.At)
	}
	for i, name := range defs.Names {
		p, ok := e.Find(name)
		if !ok || !reflect.DeepEqual(p, e.Plans[i]) || !reflect.DeepEqual(p.Lens, defs.Lenses[i].Lens) || !reflect.DeepEqual(p.Source, defs.Lenses[i].Source) {
			t.Errorf("%s: %v, %+v", name, ok, p)
		}
	}
	// The plan has the View that comes of the lens.
	if p, _ := e.Find("name"); typ.Show(p.View) != "$s" {
		t.Error(typ.Show(p.View))
	}
	if p, _ := e.Find("tree"); typ.Show(p.View) != "(str|[seq $t])" || len(p.Kids) != 2 || typ.Show(p.Kids[1].Kids[0].View) != "$t" {
		t.Errorf("%+v", p)
	}
	for _, name := range []string{"", "none", "a", "z", "fil", "filll", "Fill", "fill ", "r", "t"} {
		if p, ok := e.Find(name); ok || !reflect.DeepEqual(p, check.Plan{}) {
			t.Errorf("%s: %v, %+v", name, ok, p)
		}
	}
	// Without a plan, or a name, there is none.
	for _, e := range []check.Env{{}, {Defs: defs}, {Defs: lens.Defs{Names: []string{"a", "fill"}}, Plans: e.Plans[:1]}, {Plans: e.Plans}} {
		if p, ok := e.Find("fill"); ok || !reflect.DeepEqual(p, check.Plan{}) {
			t.Errorf("%v, %+v", ok, p)
		}
	}
	// Of one that is made by hand, in any order.
	odd := check.Env{Defs: lens.Defs{Names: []string{"c", "a", "d", "b"}}, Plans: e.Plans[:4]}
	for i, name := range odd.Defs.Names {
		if p, ok := odd.Find(name); !ok || !reflect.DeepEqual(p, e.Plans[i]) {
			t.Errorf("%s: %v, %+v", name, ok, p)
		}
	}
}
