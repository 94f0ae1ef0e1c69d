package program_test

import (
	"reflect"
	"slices"
	"strings"
	"testing"

	"stanhope/api"
	"stanhope/check"
	"stanhope/grind"
	"stanhope/lens"
	"stanhope/program"
	"stanhope/typ"
)

// read is what Read tells of a text, where that is wrong; else ok.
func read(s string) string {
	p, f := program.Read(s)
	zero := reflect.DeepEqual(p, program.Program{})
	if f.Bad() != zero || !f.Bad() && f.At != 0 {
		return "something beside a fault, or nothing without one"
	}
	if f.Bad() {
		return wrong(f.Errno, f.At)
	}
	return "ok"
}

// ready is what Ready tells of a text, where that is wrong; else ok, and the types of the plan.
func ready(s string) string {
	l, f := program.Ready(s)
	zero := reflect.DeepEqual(l, program.Loaded{})
	if f.Bad() != zero || !f.Bad() && f.At != 0 {
		return "something beside a fault, or nothing without one"
	}
	if f.Bad() {
		return wrong(f.Errno, f.At)
	}
	return typ.Show(l.Plan.Source) + " -> " + typ.Show(l.Plan.View)
}

// shown is a program: its types as layer 15 shows them, with their places behind each, and how many lenses there are.
func shown(p program.Program) string {
	at := func(t typ.Type) string { return typ.Show(t) + wrong(api.OK, t.At)[len("ok at"):] }
	var l []string
	for i, t := range p.Defs.Types.Types {
		l = append(l, p.Defs.Types.Names[i]+"="+at(t))
	}
	for i, d := range p.Defs.Lenses {
		l = append(l, p.Defs.Names[i]+"="+at(d.Source)+" -> "+at(d.View)+" by "+check.Word(d.Lens.Kind)+wrong(api.OK, d.Lens.At)[len("ok at"):])
	}
	l = append(l, at(p.Source), check.Word(p.Lens.Kind)+wrong(api.OK, p.Lens.At)[len("ok at"):])
	return strings.Join(l, "; ")
}

// P25.1: the program of a text.
func TestRead(t *testing.T) {
	for s, want := range map[string]string{
		"source: str\nlens: id\n":                                   "str 8; id 18",
		"{lens: id, source: str}":                                   "str 19; id 7",
		"# a\n---\n  'source': ~\n  \"lens\": copy\n":               "null 20; copy 32",
		"source:\nlens: {use: f}":                                   "null 0; use 14",
		"source: &x id\nlens: *x":                                   "$id 8; id 8",
		"types: {}\nlenses: {}\nsource: t\nlens: id\n":              "$t 29; id 37",
		"types:\n  t: {list: str}\n  s: any\nsource: t\nlens: id\n": "s=any 29; t=[seq str] 12; $t 41; id 49",
		"lenses:\n  g: {source: t, view: any, lens: copy}\n  f: {lens: {map: id}, view: str, source: ~}\nsource: t\nlens: id\n": "f=null 90 -> str 77 by map 60; g=$t 22 -> any 31 by copy 42; $t 101; id 109",
		// Whatever else may be wrong is no matter of reading.
		"source: none\nlens: {use: none}\ntypes: {'no name': {union: []}}\nlenses: {'': {source: a, view: b, lens: {compose: []}}}": "no name=() 50; =$a 85 -> $b 94 by compose 103; $none 8; use 19",
	} {
		p, f := program.Read(s)
		if f != (api.Fault{}) || shown(p) != want {
			t.Errorf("%q: %v at %d, %s, not %s", s, f, f.At, shown(p), want)
		}
		if len(p.Defs.Names) != len(p.Defs.Lenses) || !slices.IsSorted(p.Defs.Names) || len(p.Defs.Types.Names) != len(p.Defs.Types.Types) || !slices.IsSorted(p.Defs.Types.Names) {
			t.Errorf("%q: %+v", s, p)
		}
	}
	// All of it, the lenses as grind reads them.
	p, f := program.Read("types: {t: str}\nlenses: {f: {source: t, view: t, lens: {compose: [id, {on: {a: {hoist: k}}}]}}}\nsource: t\nlens: {sink: {into: k, keys: [b, a]}}\n")
	if f.Bad() || !reflect.DeepEqual(bare(p.Lens), bare(grind.Lens("{sink: {into: k, keys: [a, b]}}"))) || !reflect.DeepEqual(bare(p.Defs.Lenses[0].Lens), bare(grind.Lens("{compose: [id, {on: {a: {hoist: k}}}]}"))) {
		t.Errorf("%v, %+v", f, p)
	}
}

// The texts of which programs that are right, and wrong in one thing, are made.
const (
	types  = "types: {t: str}\n"
	lenses = "lenses: {f: {source: t, view: t, lens: id}}\n"
	source = "source: t\n"
	body   = "lens: id\n"
)

// P25.1: what is wrong with a text that is no program.
func TestReadForm(t *testing.T) {
	for s, want := range map[string]string{
		types + lenses + source + body: "ok",
		source + body:                  "ok",
		// Layer 12's One.
		"":                               wrong(api.ErrNone, 0),
		"# a\n":                          wrong(api.ErrNone, 0),
		source + body + "---\n" + source: wrong(api.ErrMany, 23),
		source + body + "source: t":      wrong(api.ErrTwice, 19),
		source + body + "types: *x":      wrong(api.ErrAnchor, 26),
		"source: [\nlens: id":            wrong(api.ErrSyntax, 9),
		"\xff":                           wrong(api.ErrByte, 0),
		strings.Repeat("x", 65537):       wrong(api.ErrSize, 65536),
		"source: " + strings.Repeat("[", 65) + strings.Repeat("]", 65) + "\nlens: id": wrong(api.ErrDeep, 8+63),
		// The root.
		"---":                               form(3),
		" id":                               form(1),
		"\n  []":                            form(3),
		"{}":                                form(0),
		" !a {source: t, lens: id}":         form(1),
		" !map {source: t, lens: id}":       form(1),
		source:                              form(0),
		body:                                form(0),
		types + lenses:                      form(0),
		types + lenses + source:             form(0),
		types + lenses + body:               form(0),
		"  a: b\n  source: t\n  lens: id\n": form(2),
		source + body + types + "view: t":   form(0),
		source + body + "Types: {}":         form(0),
		source + body + "'': {}":            form(0),
		"[source, lens]":                    form(0),
		// Definitions of types.
		source + body + "types: ":               form(19),
		source + body + "types: ~":              form(26),
		source + body + "types: []":             form(26),
		source + body + "types: t":              form(26),
		source + body + "types: !a {t: str}":    form(26),
		source + body + "types: {b: 1, a: []}":  form(36),
		source + body + "types: {b: 1, a: str}": form(30),
		// Definitions of lenses.
		source + body + "lenses: ":                                                   form(19),
		source + body + "lenses: ~":                                                  form(27),
		source + body + "lenses: []":                                                 form(27),
		source + body + "lenses: id":                                                 form(27),
		source + body + "lenses: !a {}":                                              form(27),
		source + body + "lenses: {f: id}":                                            form(31),
		source + body + "lenses: {f: {}}":                                            form(31),
		source + body + "lenses: {f: [t, t, id]}":                                    form(31),
		source + body + "lenses: {f: {source: t, view: t}}":                          form(31),
		source + body + "lenses: {f: {source: t, lens: id}}":                         form(31),
		source + body + "lenses: {f: {view: t, lens: id}}":                           form(31),
		source + body + "lenses: {f: {source: t, view: t, lens: id, a: b}}":          form(31),
		source + body + "lenses: {f: {source: t, view: t, lens: id, types: {}}}":     form(31),
		source + body + "lenses: {f: !a {source: t, view: t, lens: id}}":             form(31),
		source + body + "lenses: {f: {lens: 1, view: 1, source: 1}}":                 form(58),
		source + body + "lenses: {f: {lens: 1, view: 1, source: t}}":                 form(47),
		source + body + "lenses: {f: {lens: 1, view: t, source: t}}":                 form(38),
		source + body + "lenses: {g: {}, f: {lens: 1, view: t, source: t}}":          form(45),
		source + body + "lenses: {g: {}, f: {lens: id, view: t, source: t}}":         form(31),
		source + body + "lenses: {g: {lens: id, view: {list: []}, source: t}, f: ~}": form(75),
		source + body + "lenses: {g: {lens: id, view: {list: []}, source: t}}":       form(55),
		source + body + "lenses: {g: {lens: {map: {map: []}}, view: t, source: t}}":  form(50),
		// The source, the lens.
		"source: []\nlens: id\n":                form(8),
		"source: {list: 1}\nlens: []\n":         form(15),
		"lens: {map: []}\nsource: 1\n":          form(24),
		"lens: {map: []}\nsource: t\n":          form(12),
		"lens: ~\nsource: t\n":                  form(6),
		"lens:\nsource: t\n":                    form(0),
		"source:\n  - t\nlens:\n  map:\n    id": form(10),
	} {
		if got := read(s); got != want {
			t.Errorf("%.100q: %s, not %s", s, got, want)
		}
		if got := ready(s); want != "ok" && got != want {
			t.Errorf("%.100q: Ready: %s, not %s", s, got, want)
		}
	}
}

// P25.1: of several that are wrong the first: of types, of lenses, of the source, of the lens, however they stand in the text.
func TestReadOrder(t *testing.T) {
	bad := []string{"types: {a: []}\n", "lenses: {f: {source: t, view: t, lens: []}}\n", "source: []\n", "lens: []\n"}
	good := []string{types, lenses, source, body}
	for n := range 16 {
		for _, order := range [][]int{{0, 1, 2, 3}, {3, 2, 1, 0}, {2, 0, 3, 1}} {
			s, first, at := "", 4, 0
			for _, i := range order {
				if n>>i&1 == 0 {
					s += good[i]
					continue
				}
				if i < first {
					first, at = i, len(s)+strings.Index(bad[i], "[]")
				}
				s += bad[i]
			}
			want := "ok"
			if first < 4 {
				want = form(at)
			}
			if got := read(s); got != want {
				t.Errorf("%q: %s, not %s", s, got, want)
			}
		}
	}
}

// P25.1: the parts of types and of lenses count together, in the order in which they are read.
func TestParts(t *testing.T) {
	u := func(n int) string { return "{union: [" + repeat(n-1, "t") + "]}" }
	c := func(n int) string { return "{compose: [" + repeat(n-1, "id") + "]}" }
	text := func(types, source, view, def, from, body int) string {
		return "lens: " + c(body) + "\nsource: " + u(from) + "\nlenses: {f: {lens: " + c(def) + ", view: " + u(view) + ", source: " + u(source) + "}}\ntypes: {a: t, b: " + u(types) + "}\n"
	}
	if got := read(text(49, 50, 50, 50, 100, 100)); got != "ok" {
		t.Error(got)
	}
	// Each time one part is too many: the last one that is read of some.
	for _, x := range []struct{ s, last string }{
		{text(400, 1, 1, 1, 1, 1), "t]}}\n"},
		{text(300, 100, 1, 1, 1, 1), "t]}}}\ntypes"},
		{text(200, 100, 100, 1, 1, 1), "t]}, source"},
		{text(100, 100, 100, 100, 1, 1), "id]}, view"},
		{text(90, 90, 90, 90, 40, 1), "t]}\nlenses"},
		{text(70, 70, 70, 70, 70, 50), "id]}\nsource"},
	} {
		if got, want := read(x.s), many(strings.Index(x.s, x.last)); got != want {
			t.Errorf("%s: %s, not %s", x.last, got, want)
		}
	}
	// Definitions, keys, texts and literals are no parts.
	var b strings.Builder
	for i := range 132 {
		b.WriteString("f" + string(rune('a'+i/26)) + string(rune('a'+i%26)) + ": {source: t, view: t, lens: {project: {keep: [a, b, c]}}}, ")
	}
	s := "lenses: {" + b.String() + "}\nsource: t\nlens: id\ntypes: {t: str, u: {enum: [a, b, c]}}\n"
	if got := read(s); got != "ok" {
		t.Error(got)
	}
	if got, want := read(strings.Replace(s, "lens: id", "lens: {map: id}", 1)), many(strings.Index(s, "lens: id")+len("lens: {map: ")); got != want {
		t.Errorf("%s, not %s", got, want)
	}
}

// P25.2: the plan of a program's lens by its source, and its definitions made ready.
func TestReady(t *testing.T) {
	for s, want := range map[string]string{
		"source: str\nlens: {plunge: k}\n":                   "str -> {map k:str}",
		"source: any\nlens: copy\n":                          "any -> any",
		"source: t\nlens: id\ntypes: {t: {record: {a?: t}}}": "$t -> $t",
		"types: {t: {record: {a: str, b?: int}}}\nlenses: {f: {source: t, view: {record: {a: str}}, lens: {project: {keep: [a]}}}}\nsource: {list: t}\nlens: {items: {use: f}}\n": "[seq $t] -> [seq {map a:str}]",
		"source: {enum: [b, a]}\nlens: {translate: {b: x, a: y}}": `<str "a" "b"> -> <str "x" "y">`,
		"source: {record: {b: str, a?: int, c: any}}\nlens: {compose: [{rename: {b: z}}, {fill: {key: a, value: 7}}, {sink: {into: k, keys: [z, a]}}]}":              "{map a?:int b:str c:any} -> {map c:any k:{map a:int z:str}}",
		"source: {list: {union: [int, str]}}\nlens: {filter: [.int]}":                                                                                                "[seq (int|str)] -> [seq int]",
		"types: {l: {union: [~, {record: {v: int, n: l}}]}}\nsource: l\nlens: {use: s}\nlenses: {s: {source: l, view: l, lens: {union: [id, {on: {n: {use: s}}}]}}}": "$l -> $l",
	} {
		if got := ready(s); got != want {
			t.Errorf("%q: %s, not %s", s, got, want)
		}
	}
	const s = "types: {t: str}\nlenses: {g: {source: {list: t}, view: {list: {record: {k: t}}}, lens: {items: {use: f}}}, f: {source: t, view: {record: {k: t}}, lens: {plunge: k}}}\nsource: {list: t}\nlens: {compose: [{use: g}, id]}\n"
	p, f := program.Read(s)
	if f.Bad() {
		t.Fatal(f, f.At)
	}
	e, f := check.Ready(p.Defs)
	if f.Bad() {
		t.Fatal(f, f.At)
	}
	plan, f := check.Check(p.Defs, p.Lens, p.Source)
	if f.Bad() {
		t.Fatal(f, f.At)
	}
	l, f := program.Ready(s)
	if f != (api.Fault{}) || !reflect.DeepEqual(l.Env, e) || !reflect.DeepEqual(l.Plan, plan) {
		t.Errorf("%v, %+v", f, l)
	}
	if q, ok := l.Env.Find("f"); !ok || typ.Show(q.View) != "{map k:$t}" || !slices.Equal(l.Env.Defs.Names, []string{"f", "g"}) {
		t.Errorf("%+v", q)
	}
}

// P25.2: what is wrong with a program that is read, and which of several things is told: in the order of the layers' checks.
func TestReadyWrong(t *testing.T) {
	at := func(s, part string) int { return strings.Index(s, part) }
	for _, c := range []struct {
		s    string
		e    api.Errno
		part string // at which it is told
	}{
		// Layer 18's Program: the types, the definitions, their uses, their lenses.
		{source + body + "types: {t: none}\n", api.ErrName, "none"},
		{source + body + "types: {t: {union: [str]}}\n", api.ErrForm, "{union"},
		{source + body + "types: {t: t}\n", api.ErrLoop, "t}\n"},
		{source + body + "types: {t: str, 'no name': any}\n", api.ErrForm, "any"},
		{source + body + "types: {t: {list: str, tag: '!'}}\n", api.ErrForm, "{list"},
		{source + body + types + "lenses: {'no name': {source: t, view: t, lens: copy}}\n", api.ErrForm, "copy"},
		{source + body + types + "lenses: {f: {source: none, view: nope, lens: copy}}\n", api.ErrName, "none"},
		{source + body + types + "lenses: {f: {source: t, view: nope, lens: copy}}\n", api.ErrName, "nope"},
		{source + body + types + "lenses: {f: {source: t, view: t, lens: {compose: []}}}\n", api.ErrForm, "{compose"},
		{source + body + types + "lenses: {f: {source: t, view: t, lens: {use: g}}}\n", api.ErrName, "{use"},
		{source + body + types + "lenses: {f: {source: t, view: t, lens: {use: f}}}\n", api.ErrLoop, "{use"},
		{source + body + types + "lenses: {f: {source: t, view: t, lens: copy}}\n", api.ErrLens, "copy"},
		{source + body + types + "lenses: {f: {source: t, view: any, lens: {compose: [id]}}}\n", api.ErrLens, "{compose"},
		// Layer 15's Check of the source.
		{"source: none\nlens: copy\n", api.ErrName, "none"},
		{"source: {list: {union: [str, str]}}\nlens: copy\n", api.ErrForm, "{union"},
		{"source: {keyed: str, by: k}\nlens: id\n", api.ErrForm, "{keyed"},
		{types + "source: {record: {a: str}, tag: t}\nlens: id\n", api.ErrForm, "{record"},
		// Layer 17's Check of the lens.
		{"source: str\nlens: {compose: []}\n", api.ErrForm, "{compose"},
		{"source: str\nlens: {compose: [copy, {union: [id]}]}\n", api.ErrForm, "{union"},
		{"source: str\nlens: {filter: []}\n", api.ErrForm, "{filter"},
		{"source: str\nlens: {const: {view: [], default: ''}}\n", api.ErrForm, "{const"},
		{"source: str\nlens: {project: {keep: [a], default: {a: b}}}\n", api.ErrForm, "{project"},
		{"source: str\nlens: {rename: {a: x, b: x}}\n", api.ErrForm, "{rename"},
		{"source: str\nlens: {use: 'no name'}\n", api.ErrForm, "{use"},
		// Layer 18's Check of it by the source.
		{"source: str\nlens: copy\n", api.ErrLens, "copy"},
		{"source: str\nlens: {compose: [id, {hoist: k}]}\n", api.ErrLens, "{hoist"},
		{"source: str\nlens: {use: f}\n", api.ErrName, "{use"},
		{types + lenses + "source: any\nlens: {use: f}\n", api.ErrLens, "{use"},
	} {
		if got, want := ready(c.s), wrong(c.e, at(c.s, c.part)); got != want {
			t.Errorf("%q: %s, not %s", c.s, got, want)
		}
		if got := read(c.s); got != "ok" {
			t.Errorf("%q: Read: %s", c.s, got)
		}
	}
	// Of all these together the first one.
	steps := []struct {
		e     api.Errno
		parts [4]string
	}{
		{api.ErrName, [4]string{"types: {t: none}\n"}},
		{api.ErrLens, [4]string{"", "lenses: {f: {source: str, view: str, lens: copy}}\n"}},
		{api.ErrName, [4]string{"", "", "source: nope\n"}},
		{api.ErrForm, [4]string{"", "", "", "lens: {compose: [{hoist: k}, {union: [id]}]}\n"}},
		{api.ErrLens, [4]string{"", "", "", "lens: {hoist: k}\n"}},
	}
	marks := []string{"none", "copy", "nope", "{union", "{hoist"}
	for n := 1; n < 32; n++ {
		parts := [4]string{types, lenses, source, body}
		first := -1
		for i := len(steps) - 1; i >= 0; i-- {
			if n>>i&1 == 0 {
				continue
			}
			first = i
			for k, s := range steps[i].parts {
				if s != "" {
					parts[k] = s
				}
			}
		}
		s := parts[3] + parts[2] + parts[1] + parts[0]
		if got, want := ready(s), wrong(steps[first].e, at(s, marks[first])); got != want {
			t.Errorf("%q: %s, not %s", s, got, want)
		}
	}
}

// R3, R5: what is told of a text is the same each time, whatever is written into what was handed out.
func TestHandedOut(t *testing.T) {
	const s = types + lenses + "source: {record: {a: t}}\nlens: {compose: [{project: {keep: [a]}}, {on: {a: {use: f}}}]}\n"
	p, _ := program.Read(s)
	l, _ := program.Ready(s)
	for range 3 {
		q, f := program.Read(s)
		m, e := program.Ready(s)
		if f.Bad() || e.Bad() || !reflect.DeepEqual(p, q) || !reflect.DeepEqual(l, m) {
			t.Fatal(f, e, q, m)
		}
		scribble(q.Lens)
		scribble(m.Plan.Lens)
		q.Defs.Names[0], q.Defs.Types.Names[0], q.Source.Fields[0].Key = "written", "written", "written"
		q.Defs.Lenses[0], q.Defs.Types.Types[0] = lens.Def{}, typ.Type{}
		m.Plan.Source.Fields[0].Key, m.Env.Defs.Names[0], m.Env.Plans[0] = "written", "written", check.Plan{}
	}
}
