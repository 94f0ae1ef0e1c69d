package scribe_test

import (
	"math/rand"
	"testing"

	"stanhope/carve"
	"stanhope/graph"
	"stanhope/grind"
	"stanhope/iso"
	"stanhope/lens"
	"stanhope/load"
	"stanhope/scribe"
	"stanhope/sketch"
	"stanhope/spell"
	"stanhope/value"
)

// What is written as it stands.
func TestType(t *testing.T) {
	for s, want := range map[string]string{
		"str":                             "str",
		"null":                            `"null"`,
		"!a":                              `"!a"`,
		"dag":                             "dag",
		"any":                             "any",
		"$t":                              "t",
		`<str "a" "1">`:                   `{enum: [a, "1"]}`,
		`<int "1" "2">`:                   "{enum: [1, 2]}",
		`<null "">`:                       "{enum: [~]}",
		`<!a "b">`:                        "{enum: [!a b]}",
		"{map}":                           "{record: {}}",
		"{!m b?:str '?'?:$t a:any *:int}": `{tag: "!m", record: {"b?": str, "??": t, a: any}, rest: int}`,
		"[seq [!l str]]":                  `{list: {tag: "!l", list: str}}`,
		"[seq by k {map k:str}]":          "{keyed: {record: {k: str}}, by: k}",
		"(str|int)":                       "{union: [str, int]}",
	} {
		if got := (scribe.Pen{}).Type(spell.Type(s)); got != want {
			t.Errorf("%s: %s, not %s", s, got, want)
		}
	}
}

// The lenses of grind stay as they are written.
func TestLens(t *testing.T) {
	for _, s := range []string{
		"id", "copy", "{const: {view: 1, default: []}}", "{const: {view: !a b, default: !m {}}}", "{compose: [id, copy]}", "{union: [id, {use: f}]}",
		"{project: {keep: [a, b]}}", "{project: {keep: [], default: {c: {}, d: x}}}", `{rename: {a: "1", b: c}}`, "{translate: {a: b}}",
		"{hoist: k}", `{plunge: ""}`, "{lift: k}", "{use: f}", "{sink: {into: k, keys: [a, b]}}", `{filter: [".int", ".str"]}`,
		"{map: id}", "{items: {keyed: id}}", "{on: {a: id, b: {use: f}}}", "{fill: {key: k, value: ~}}", "{fill: {key: k, value: true}}",
	} {
		if got := (scribe.Pen{}).Lens(grind.Lens(s)); got != s {
			t.Errorf("%s: %s", s, got)
		}
	}
}

func TestProgram(t *testing.T) {
	d := grind.Program("{types: {s: str}, lenses: {f: {source: $s, view: '{map k:$s}', lens: {plunge: k}}}}")
	const want = "source: s\nlens: {use: f}\ntypes: {s: str}\nlenses: {f: {source: s, view: {record: {k: s}}, lens: {plunge: k}}}\n"
	if got := (scribe.Pen{}).Program(d, spell.Type("$s"), grind.Lens("{use: f}")); got != want {
		t.Errorf("%s, not %s", got, want)
	}
	if got := (scribe.Pen{}).Program(lens.Defs{}, spell.Type("str"), grind.Lens("id")); got != "source: str\nlens: id\n" {
		t.Error(got)
	}
}

// Whatever is picked, what is written is a document; and it isn't always written alike.
func TestPick(t *testing.T) {
	pen := scribe.Pen{Pick: rand.New(rand.NewSource(1)).Intn}
	x := spell.Type(`{!m a:<str "a" "b"> b?:[seq (null|int)] *:dag}`)
	l := grind.Lens("{compose: [{project: {keep: [a, b], default: {d: x}}}, {on: {a: id, b: {plunge: '1'}}}, {sink: {into: '', keys: [a]}}]}")
	met := map[string]int{}
	for range 200 {
		for _, s := range []string{pen.Type(x), pen.Lens(l), pen.Literal(carve.Scalar("null", "")), pen.Literal(value.Value{Kind: value.Seq, Tag: "!l"})} {
			if _, f := load.One(s); f.Bad() {
				t.Errorf("%s: %v at %d", s, f, f.At)
			}
			met[s]++
		}
	}
	if len(met) < 300 || met["~"] == 0 || met["null"] == 0 || met["!l []"] != 200 {
		t.Error(len(met), met)
	}
}

// What falls is a document most often, and changes most often.
func TestSoup(t *testing.T) {
	pen := scribe.Pen{Pick: rand.New(rand.NewSource(2)).Intn}
	wrong, same, odd := 0, 0, 0
	for range 1000 {
		d := pen.Soup(12, "a", "a b", "c")
		if len(d.Nodes) != 12 || len(d.At) != 12 || d.At[3] != 121 {
			t.Fatal(d)
		}
		if d.Check().Bad() {
			wrong++
		}
		was := sketch.Whole(d.Graph)
		g := pen.Spoiled(d.Graph)
		if !sketch.Equal(sketch.Whole(d.Graph), was) {
			t.Fatal("what is handed in has changed")
		}
		if sketch.Equal(d.Graph, g) {
			same++
		}
		if g.Check().Bad() {
			odd++
		}
	}
	if wrong > 0 || same > 300 || odd > 200 || odd == 0 {
		t.Error(wrong, same, odd)
	}
}

// What is written as it stands, and loaded as the same graph, whatever is picked.
func TestGraph(t *testing.T) {
	for want, g := range map[string]graph.Graph{
		"x":                          sketch.Of(0, sketch.Str("x")),
		"~":                          sketch.Of(0, sketch.Scalar("null", "")),
		`!a "1"`:                     sketch.Of(0, sketch.Scalar("!a", "1")),
		"!a []":                      sketch.Of(0, sketch.Tagged("!a", sketch.Seq())),
		"{}":                         sketch.Of(0, sketch.Map("")),
		"[x, x]":                     sketch.Of(1, sketch.Str("x"), sketch.Seq(0, 2), sketch.Str("x")),
		"{b: &n0 x, a: *n0}":         sketch.Of(1, sketch.Str("x"), sketch.Map("b a", 0, 0)),
		"&n0 [*n0, &n1 !a {k: *n1}]": sketch.Of(0, sketch.Seq(0, 1), sketch.Tagged("!a", sketch.Map("k", 1))),
	} {
		if got := (scribe.Pen{}).Graph(g); got != want {
			t.Errorf("%s, not %s", got, want)
		}
	}
	pick := sketch.Pick(rand.New(rand.NewSource(3)).Intn)
	pen, met := scribe.Pen{Pick: pick}, map[string]int{}
	for range 300 {
		g := pick.Graph(1 + pick(8))
		for range 5 {
			s := pen.Graph(g)
			met[s]++
			if d, f := load.One(s + "\n"); f.Bad() || !iso.Same(d.Graph, g) {
				t.Fatalf("%s: %v at %d: %v, not %v", s, f, f.At, d.Graph, g)
			}
		}
	}
	if len(met) < 400 {
		t.Error(len(met))
	}
}
