package check_test

import (
	"errors"
	"math"
	"reflect"
	"slices"
	"strings"
	"testing"

	"stanhope/api"
	"stanhope/check"
	"stanhope/fault"
	"stanhope/grind"
	"stanhope/lens"
	"stanhope/spell"
	"stanhope/typ"
)

// defs are definitions with which nothing is wrong.
var defs = grind.Program(`types: {any: any, b: $s, e: '<str "a" "b">', in: '{!in x:str y?:int}', k: '[seq by k $rec]', l: '[seq $u]', r: '{map k:str v?:int}', rec: $r, s: str, t: '(str|[seq $t])', u: '(str|int|[seq $s])'}
lenses:
  fill: {source: $r, view: '{map k:str v:int}', lens: {fill: {key: v, value: 0}}}
  hoist: {source: '{map k:str}', view: str, lens: {hoist: k}}
  name: {source: $s, view: $b, lens: id}
  rows: {source: $k, view: '[seq by k {map k:str v:int}]', lens: {keyed: {use: fill}}}
  tree: {source: $t, view: $t, lens: {union: [id, {items: {use: tree}}]}}
  wide: {source: $t, view: '(<str "x">|[seq $t])', lens: {union: [{const: {view: x, default: y}}, {items: {use: tree}}]}}
`)

// tell is all that there is to tell of a lens by a type of sources: the text of the type of its views; or the fault, and the way to it.
func tell(t *testing.T, d lens.Defs, l lens.Lens, s typ.Type) (string, api.Fault, []fault.Step) {
	t.Helper()
	p, f := check.Check(d, l, s)
	q, err := check.Try(d, l, s)
	if !reflect.DeepEqual(p, q) || f != fault.Of(err) || f.Bad() != (err != nil) {
		t.Fatalf("%+v by %s: Check tells %v at %d, Try %v", l, typ.Show(s), f, f.At, err)
	}
	if f.Bad() {
		if !reflect.DeepEqual(p, check.Plan{}) {
			t.Fatalf("%+v by %s: %v at %d, and %+v", l, typ.Show(s), f, f.At, p)
		}
		return "", f, steps(err)
	}
	if !reflect.DeepEqual(p.Lens, l) || !reflect.DeepEqual(p.Source, s) {
		t.Fatalf("%+v by %s: %+v", l, typ.Show(s), p)
	}
	sound(t, d, p)
	return typ.Show(p.View), f, nil
}

// steps are the steps of a way, the outermost first.
func steps(err error) []fault.Step {
	var l []fault.Step
	for err != nil {
		s, ok := err.(fault.Step)
		if !ok {
			break
		}
		l = append(l, fault.Step{Word: s.Word, At: s.At})
		err = s.Err
	}
	return l
}

// sound holds what is so of each plan: its Kids lead from where it says to where it says, and its View may be.
func sound(t *testing.T, d lens.Defs, p check.Plan) {
	t.Helper()
	if f := typ.Check(d.Types, p.View); f.Bad() {
		t.Fatalf("%s: %v at %d", typ.Show(p.View), f, f.At)
	}
	r, _ := typ.Resolve(d.Types, p.Source)
	v, _ := typ.Resolve(d.Types, p.View)
	var from, to []typ.Type
	kids := p.Lens.Kids
	switch p.Lens.Kind {
	case lens.Compose:
		from = append(from, p.Source)
		for _, k := range p.Kids {
			from, to = append(from, k.View), append(to, k.View)
		}
		from = from[:len(from)-1]
		if !reflect.DeepEqual(p.View, to[len(to)-1]) {
			t.Fatalf("%s, not %s", typ.Show(p.View), typ.Show(to[len(to)-1]))
		}
	case lens.Map, lens.Items, lens.Keyed, lens.Union:
		from, to = r.Items, v.Items
	case lens.On:
		for _, k := range p.Lens.Keys {
			for i := range r.Fields {
				if r.Fields[i].Key == k {
					from, to = append(from, r.Fields[i].Type), append(to, v.Fields[i].Type)
				}
			}
		}
	default:
		kids = nil
	}
	if len(p.Kids) != len(kids) || len(from) != len(kids) || len(to) != len(kids) {
		t.Fatalf("%d plans of %d Kids from %d types to %d: %+v", len(p.Kids), len(kids), len(from), len(to), p)
	}
	for i, k := range p.Kids {
		if !reflect.DeepEqual(k.Source, from[i]) || !reflect.DeepEqual(k.View, to[i]) || !reflect.DeepEqual(k.Lens, kids[i]) {
			t.Fatalf("Kid %d leads from %s to %s, not from %s to %s", i, typ.Show(k.Source), typ.Show(k.View), typ.Show(from[i]), typ.Show(to[i]))
		}
		sound(t, d, k)
	}
}

// leads are texts of a type of sources, of a lens, and of the type of its views.
type leads []struct{ source, lens, view string }

// hold holds what is told of the lenses, with what plays no part, too.
func (l leads) hold(t *testing.T, d lens.Defs) {
	t.Helper()
	for _, c := range l {
		x, s := grind.Lens(c.lens), spell.Moved(spell.Type(c.source), 1000)
		if f := typ.Check(d.Types, s); f.Bad() {
			t.Fatalf("%s: %v at %d", c.source, f, f.At-1000)
		}
		if got, f, _ := tell(t, d, x, s); got != c.view {
			t.Errorf("%s by %s: %s, %s, not %s", c.lens, c.source, got, told(c.lens, f), c.view)
		}
		if got, f, _ := tell(t, grind.NoisyProgram(d), grind.Noisy(x), spell.Noisy(s)); got != c.view {
			t.Errorf("%s by %s, with what plays no part: %s, %s, not %s", c.lens, c.source, got, told(c.lens, f), c.view)
		}
	}
}

// told is a fault, and the place at which it is marked in a text by ^.
func told(s string, f api.Fault) string {
	if !f.Bad() {
		return s
	}
	return f.Word() + " at " + s[:f.At] + "^" + s[f.At:]
}

// wrongs are texts of a type of sources, and of a lens that is wrong by it, at the lens that is marked by ^: ErrLens, or, where ^^ marks it, ErrName.
type wrongs []struct{ source, lens string }

// hold holds what is told of the lenses, with what plays no part, too.
func (l wrongs) hold(t *testing.T, d lens.Defs) {
	t.Helper()
	for _, c := range l {
		text := strings.ReplaceAll(c.lens, "^", "")
		want := api.Fault{Errno: api.ErrLens, At: strings.Index(c.lens, "^")}
		if strings.Contains(c.lens, "^^") {
			want.Errno = api.ErrName
		}
		x, s := grind.Lens(text), spell.Type(c.source)
		if f := typ.Check(d.Types, s); f.Bad() {
			t.Fatalf("%s: %v at %d", c.source, f, f.At)
		}
		way := way(x, want.At)
		if got, f, steps := tell(t, d, x, s); f != want || !slices.Equal(steps, way) {
			t.Errorf("%s by %s: %s%s on the way %v, not %s on the way %v", text, c.source, got, told(text, f), steps, told(text, want), way)
		}
		if got, f, steps := tell(t, grind.NoisyProgram(d), grind.Noisy(x), spell.Noisy(s)); f != want || !slices.Equal(steps, way) {
			t.Errorf("%s by %s, with what plays no part: %s%s on the way %v, not %s on the way %v", text, c.source, got, told(text, f), steps, told(text, want), way)
		}
	}
}

// way are the steps from a lens to the one in it that has a place.
func way(l lens.Lens, at int) []fault.Step {
	step := fault.Step{Word: kindWords[l.Kind], At: l.At}
	if l.At == at {
		return []fault.Step{step}
	}
	for _, k := range l.Kids {
		if w := way(k, at); w != nil {
			return append([]fault.Step{step}, w...)
		}
	}
	return nil
}

// kindWords are the words of the kinds.
var kindWords = strings.Fields("other id copy const compose project rename hoist plunge lift sink filter map items keyed on union fill translate use")

// P18.3: the words of kinds, and of what is none.
func TestWord(t *testing.T) {
	for i, w := range kindWords {
		if got := check.Word(lens.Kind(i)); got != w {
			t.Errorf("%d: %q, not %q", i, got, w)
		}
	}
	if len(kindWords) != 20 {
		t.Error(len(kindWords))
	}
	for _, k := range []lens.Kind{-1, -2, 20, 21, 1000, math.MinInt, math.MaxInt} {
		if got := check.Word(k); got != "other" {
			t.Errorf("%d: %q", k, got)
		}
	}
}

// P18.3: which types fit.
func TestFit(t *testing.T) {
	d := spell.Defs("a=str b=$a c=$b l=[seq $a] m=[seq str] n=$l o=$x p=$p q=$p u=(str|int) v=$u")
	// Those of one row fit one another, and those of no other one.
	rows := []string{
		"str $a $b $c",
		"int",
		"[seq,$a] $l $n",
		"[seq,str] $m",
		"[seq,$b]",
		"(str|int) $u $v",
		"(int|str)",
		"($a|int)",
		"{map,a:str} {map,a:str}",
		"{map,a?:str}",
		"{map,a:$a}",
		"<str,'a'>",
		"dag",
		"any",
		"?",
		// What can't be resolved fits what is alike, and nothing else, not even what is of no Kind.
		"$o", "$x", "$p", "$q", "$y",
	}
	for i, a := range rows {
		for j, b := range rows {
			for _, x := range strings.Fields(a) {
				for _, y := range strings.Fields(b) {
					p, q := spell.Type(strings.ReplaceAll(x, ",", " ")), spell.Type(strings.ReplaceAll(y, ",", " "))
					for _, q := range []typ.Type{q, spell.Noisy(q)} {
						if check.Fit(d, p, q) != (i == j) || check.Fit(d, q, p) != (i == j) {
							t.Errorf("%s and %s: %v", x, y, i != j)
						}
					}
				}
			}
		}
	}
}

// The chapter's example 1.
func TestExample(t *testing.T) {
	leads{
		{"str", "{plunge: k}", "{map k:str}"},
		{"{map k:str}", "{hoist: k}", "str"},
		{"str", "{compose: [{plunge: k}, {hoist: k}]}", "str"},
	}.hold(t, lens.Defs{})
}

// P18.1: the plan of a lens, with all in it.
func TestPlan(t *testing.T) {
	l, s := grind.Lens("{compose: [id, {on: {a: {plunge: k}, b: {items: id}}}]}"), spell.Type("{map a:str b:[seq int]}")
	p, f := check.Check(lens.Defs{}, l, s)
	str, num := s.Fields[0].Type, s.Fields[1].Type.Items[0]
	plunge := check.Plan{Lens: l.Kids[1].Kids[0], Source: str}
	plunge.View = typ.Type{Kind: typ.Record, At: plunge.Lens.At, Tag: "map", Fields: []typ.Field{{Key: "k", Type: str}}}
	items := check.Plan{Lens: l.Kids[1].Kids[1], Source: s.Fields[1].Type, Kids: []check.Plan{{Lens: l.Kids[1].Kids[1].Kids[0], Source: num, View: num}}}
	items.View = typ.Type{Kind: typ.List, At: items.Lens.At, Tag: "seq", Items: []typ.Type{num}}
	on := check.Plan{Lens: l.Kids[1], Source: s, Kids: []check.Plan{plunge, items}}
	on.View = typ.Type{Kind: typ.Record, At: on.Lens.At, Tag: "map", Fields: []typ.Field{{Key: "a", Type: plunge.View}, {Key: "b", Type: items.View}}}
	want := check.Plan{Lens: l, Source: s, View: on.View, Kids: []check.Plan{{Lens: l.Kids[0], Source: s, View: s}, on}}
	if f.Bad() || !reflect.DeepEqual(p, want) {
		t.Errorf("%v at %d: %+v, not %+v", f, f.At, p, want)
	}
}

// P18.1: the way to what is wrong.
func TestWay(t *testing.T) {
	l := grind.Lens("{compose: [id, {on: {a: id, b: {map: {use: none}}}}, copy]}")
	_, err := check.Try(defs, l, spell.Type("{map a:str b:{map *:int}}"))
	if got := fault.Words(err); !slices.Equal(got, []string{"compose", "on", "map", "use"}) {
		t.Error(got)
	}
	var f api.Fault
	at := l.Kids[1].Kids[1].Kids[0].At
	if !errors.As(err, &f) || f != (api.Fault{Errno: api.ErrName, At: at}) || !errors.Is(err, api.ErrName) || errors.Is(err, api.ErrLens) {
		t.Errorf("%v: %v at %d", err, f, f.At)
	}
	_, err = check.Try(defs, l, spell.Type("{map a:str b:{map}}"))
	if got := fault.Words(err); !slices.Equal(got, []string{"compose", "on", "map"}) || !fault.Is(err, api.ErrLens) || fault.Is(err, api.ErrName) {
		t.Error(got, err)
	}
}

// P18.1: a way has each lens's own place, whatever it is.
func TestPlaces(t *testing.T) {
	for _, at := range []int{0, -3, 1 << 50, math.MinInt, math.MaxInt} {
		l := lens.Lens{Kind: lens.Items, At: 7, Kids: []lens.Lens{{Kind: lens.Copy, At: at}}}
		_, f, way := tell(t, lens.Defs{}, l, spell.Type("[seq str]"))
		if f != (api.Fault{Errno: api.ErrLens, At: at}) || !slices.Equal(way, []fault.Step{{Word: "items", At: 7}, {Word: "copy", At: at}}) {
			t.Error(f, f.At, way)
		}
	}
}

// ats are the places in a type, each ahead of those of its parts.
func ats(x typ.Type) []int {
	l := []int{x.At}
	for _, f := range x.Fields {
		l = append(l, ats(f.Type)...)
	}
	for _, i := range x.Items {
		l = append(l, ats(i)...)
	}
	return l
}

// P18.1: a view's own places are the lens's; what comes from elsewhere has its own.
func TestOwnPlaces(t *testing.T) {
	const at = 5 // of the lens, that stands in a compose
	for _, c := range []struct {
		source, lens string
		want         []int
	}{
		{"[seq str]", "id", []int{0, 5}},
		{"any", "copy", []int{0}},
		{"str", "{const: {view: x, default: y}}", []int{-at}},
		{"{map a:str b?:int}", "{project: {keep: [a, b]}}", []int{-at, 7, 14}},
		{"{map a:str b:[seq int]}", "{rename: {a: c}}", []int{-at, 13, 18, 7}},
		{"{map a:[seq int]}", "{hoist: a}", []int{7, 12}},
		{"[seq int]", "{plunge: a}", []int{-at, 0, 5}},
		{"{map a:{map c:int} b:str}", "{lift: a}", []int{-at, 21, 14}},
		{"{map a:str b:int}", "{sink: {into: c, keys: [a]}}", []int{-at, 13, -at, 7}},
		{"[seq (str|int)]", "{filter: [.int]}", []int{-at, 10}},
		{"[seq (str|int|bool)]", "{filter: [.bool, .int]}", []int{-at, -at, 10, 14}},
		{"{map *:(str|int|bool)}", "{filter: [.bool, .int]}", []int{-at, -at, 12, 16}},
		{"{map *:[seq str]}", "{map: id}", []int{-at, 7, 12}},
		{"[seq str]", "{items: id}", []int{-at, 5}},
		{"[seq by k {map k:str}]", "{keyed: id}", []int{-at, 10, 17}},
		{"{map a:str b:int *:any}", "{on: {a: id}}", []int{-at, 7, 13, 19}},
		{"(str|[seq int])", "{union: [id, id]}", []int{-at, 1, 5, 10}},
		{"{map a:str b?:int *:any}", "{fill: {key: b, value: 0}}", []int{-at, 7, 14, 20}},
		{`<str "a">`, "{translate: {a: b}}", []int{-at}},
	} {
		l := grind.Lens(c.lens)
		l.At = -at
		p, f := check.Check(lens.Defs{}, l, spell.Type(c.source))
		if got := ats(p.View); f.Bad() || !slices.Equal(got, c.want) {
			t.Errorf("%s by %s: %v, not %v", c.lens, c.source, got, c.want)
		}
	}
	// That of a Use is the definition's View.
	d := grind.Program("{lenses: {f: {source: any, view: '[seq any]', lens: copy}}}")
	p, f := check.Check(d, grind.Lens("{use: f}"), spell.Type("any"))
	if f.Bad() || !reflect.DeepEqual(p.View, d.Lenses[0].View) {
		t.Errorf("%v at %d: %+v", f, f.At, p)
	}
}

// R2: what a lens makes itself has nothing in what plays no part, whatever stood there.
func TestBare(t *testing.T) {
	for _, c := range []struct{ source, lens string }{
		{"str", "{const: {view: x, default: y}}"},
		{"{map a:str b?:int}", "{project: {keep: [a, b]}}"},
		{"{map a:str b:int}", "{rename: {a: c}}"},
		{"int", "{plunge: a}"},
		{"{map a:{map c:int} b:str}", "{lift: a}"},
		{"{map a:str b:int}", "{sink: {into: c, keys: [a]}}"},
		{"[seq (str|int)]", "{filter: [.int]}"},
		{"{map *:(str|int|bool)}", "{filter: [.bool, .int]}"},
		{"{map *:str}", "{map: id}"},
		{"[seq str]", "{items: id}"},
		{"[seq by k {map k:str}]", "{keyed: id}"},
		{"{map a:str b:int *:any}", "{on: {a: id}}"},
		{"(str|[seq int])", "{union: [id, id]}"},
		{"{map a:str b?:int *:any}", "{fill: {key: b, value: 0}}"},
		{`<str "a">`, "{translate: {a: b}}"},
	} {
		l := grind.Lens(c.lens)
		p, f := check.Check(lens.Defs{}, grind.Noisy(l), spell.Noisy(spell.Type(c.source)))
		v := p.View
		bare := typ.Type{Kind: v.Kind, At: l.At, Fields: v.Fields, Items: v.Items}
		if v.Kind != typ.Union {
			bare.Tag = v.Tag
		}
		switch v.Kind {
		case typ.Enum:
			bare.Words = v.Words
		case typ.Keyed:
			bare.Name = "k"
		case typ.Record:
			if len(v.Items) > 1 {
				t.Errorf("%+v", v)
			}
		}
		if v.Kind != typ.Record {
			bare.Fields = nil
		}
		if v.Kind == typ.Enum {
			bare.Items = nil
		}
		if f.Bad() || !reflect.DeepEqual(v, bare) {
			t.Errorf("%s by %s: %v at %d: %+v", c.lens, c.source, f, f.At, v)
		}
	}
}
