package schema_test

import (
	"reflect"
	"slices"
	"strconv"
	"strings"
	"testing"

	"stanhope/api"
	"stanhope/graph"
	"stanhope/load"
	"stanhope/schema"
	"stanhope/sketch"
	"stanhope/spell"
	"stanhope/typ"
)

// doc is a text's only document.
func doc(t *testing.T, s string) load.Doc {
	t.Helper()
	d, f := load.One(s)
	if f.Bad() {
		t.Fatalf("%q: %v at %d", s, f, f.At)
	}
	return d
}

// bare is a type without places, and with no empty lists.
func bare(x typ.Type) typ.Type {
	x.At = 0
	x.Words = tight(x.Words)
	x.Fields, x.Items = tight(x.Fields), tight(x.Items)
	for i := range x.Fields {
		x.Fields[i].Type = bare(x.Fields[i].Type)
	}
	for i := range x.Items {
		x.Items[i] = bare(x.Items[i])
	}
	return x
}

// tight is a list anew; nil, if it is empty.
func tight[T any](l []T) []T { return append([]T(nil), l...) }

// places are the places of a type and those in it, in order.
func places(x typ.Type) []int {
	l := []int{x.At}
	for _, f := range x.Fields {
		l = append(l, places(f.Type)...)
	}
	for _, i := range x.Items {
		l = append(l, places(i)...)
	}
	return l
}

// told is what a reader tells of a node as a type.
func told(r *schema.Reader, n int) string {
	x, f := r.Type(n)
	if f.Bad() {
		if !reflect.DeepEqual(bare(x), typ.Type{}) || x.At != 0 {
			return "something beside a fault"
		}
		return wrong(f.Errno, f.At)
	}
	if f != (api.Fault{}) {
		return "a place beside no fault"
	}
	return typ.Show(x)
}

// wrong is a fault, as it is told.
func wrong(e api.Errno, at int) string { return e.Word() + " at " + strconv.Itoa(at) }

// P24.1: what is written of each kind, as layer 15 shows it.
func TestType(t *testing.T) {
	for s, want := range map[string]string{
		// Scalars.
		"~": "null", "null": "null", "---": "null", "'null'": "null", `"null"`: "null", "'~'": "",
		"bool": "bool", "int": "int", "str": "str", "'str'": "str", "!str str": "",
		"'!a'": "!a", `"!x-9"`: "!x-9", "dag": "dag", "any": "any", "'any'": "any", `"d\x61g"`: "dag",
		"t": "$t", "Str": "$Str", "seq": "$seq", "map": "$map", "anyx": "$anyx", "-": "", "'-'": "$-", "_": "$_",
		"'1'": "$1", "'true'": "$true", `"-0"`: "$-0", "-0": "$-0", "01": "$01", strings.Repeat("n", 32): "$" + strings.Repeat("n", 32),
		"|\n  str": "", "|-\n  str": "str", "&x int": "int",
		// Enums.
		"enum: [b, a]":                     `<str "a" "b">`,
		"enum: [b, a, b, a, b]":            `<str "a" "b">`,
		"enum:\n  - 'x'\n  - \"x\"\n  - x": `<str "x">`,
		"enum: [10, 9, -1]":                `<int "-1" "10" "9">`,
		"enum: [true, false]":              `<bool "false" "true">`,
		"enum: [~, null]":                  `<null "">`,
		"enum: [!a b, !a a]":               `<!a "a" "b">`,
		"enum: ['1', \"true\", '', '~']":   `<str "" "1" "true" "~">`,
		"enum: [&x a, *x, b]":              `<str "a" "b">`,
		// Lists, and items that have keys.
		"list: str":                                   "[seq str]",
		"{list: str, tag: seq}":                       "[seq str]",
		"{tag: '!s', list: {list: any}}":              "[!s [seq any]]",
		"list: str\ntag: 1":                           "[1 str]",
		"list: str\ntag: true":                        "[true str]",
		"list: str\ntag: 'no tag'":                    "[no tag str]",
		"keyed: t\nby: k":                             "[seq by k $t]",
		"{tag: '!s', keyed: {record: {}}, by: 'a b'}": "[!s by 'a b' {map}]",
		"by: 1\nkeyed: t":                             "[seq by '1' $t]",
		"by: true\nkeyed: t\ntag: seq":                "[seq by true $t]",
		"by: ''\nkeyed: t":                            "[seq by '' $t]",
		// Unions.
		"union: []":                          "()",
		"union: [str]":                       "(str)",
		"union: [str, int, str]":             "(str|int|str)",
		"union:\n  - ~\n  -\n  - 'null'":     "(null|null|null)",
		"union: [{union: [t]}, {list: dag}]": "(($t)|[seq dag])",
		// Records.
		"record: {}":                                  "{map}",
		"record: {}\ntag: '!m'":                       "{!m}",
		"record: {a: str, b?: int}":                   "{map a:str b?:int}",
		"record: {b: str, a: int, '': t}":             "{map '':$t a:int b:str}",
		"record:\n  a:\n  b?:\n":                      "{map a:null b?:null}",
		"record: {'?': str}":                          "{map ''?:str}",
		"record: {'??': str, '?': int, 'a??': bool}":  "{map ''?:int '?'?:str 'a?'?:bool}",
		"record: {'a!': str, 'a?': int, 'a@': bool}":  "{map a?:int 'a!':str 'a@':bool}",
		"record: {'a?b': str}":                        "{map 'a?b':str}",
		"record: {}\nrest: str":                       "{map *:str}",
		"{rest: {list: t}, record: {b: any}, tag: x}": "{x b:any *:[seq $t]}",
		"record: {record: {record: {}}}":              "{map record:{map}}",
		"record: {enum: str, list: int, tag: bool}":   "{map enum:str list:int tag:bool}",
		// Nodes that are shared are read as often as they stand there.
		"record: {a: &x {list: str}, b: *x}": "{map a:[seq str] b:[seq str]}",
		"union: [&x {enum: [a]}, *x, *x]":    `(<str "a">|<str "a">|<str "a">)`,
		"{tag: &x k, keyed: *x, by: *x}":     "[k by k $k]",
	} {
		d := doc(t, s)
		got := told(schema.New(d), d.Root)
		if want == "" {
			want = wrong(api.ErrForm, d.At[d.Root])
		}
		if got != want {
			t.Errorf("%q: %s, not %s", s, got, want)
		}
	}
}

// P24.1, R2: what is read has what its kind names, and nothing else, each type at its node's place.
func TestWhole(t *testing.T) {
	cases := []struct {
		text, want string
		at         []int
	}{
		{"  int", "int", []int{2}},
		{"~", "null", []int{0}},
		{"  dag # any", "dag", []int{2}},
		{"t", "$t", []int{0}},
		{"enum: [b, &x a]", `<str a b>`, []int{0}},
		{"{record: {a: str, b?: int}}", "{map a:str b?:int}", []int{0, 13, 22}},
		{"{record: {'a!': str, 'a?': &x int}, rest: *x, tag: t}", "{t a?:int 'a!':str *:int}", []int{0, 27, 16, 27}},
		{"record:\n  b: &y\n    list: any\n  a:\nrest:\n", "{map a:null b:[seq any] *:null}", []int{0, 32, 13, 26, 35}},
		{"tag: \"!s\"\nlist:\n  union:\n    - str\n    -  null\n", "[!s (str|null)]", []int{0, 18, 31, 42}},
		{"{by: &k k, keyed: {record: {k: int}}}", "[seq by k {map k:int}]", []int{0, 18, 31}},
	}
	for _, c := range cases {
		d := doc(t, c.text)
		x, f := schema.New(d).Type(d.Root)
		if f.Bad() || !reflect.DeepEqual(bare(x), bare(spell.Type(c.want))) || !slices.Equal(places(x), c.at) {
			t.Errorf("%q: %v at %d, %+v", c.text, f, f.At, x)
		}
	}
}

// P24.1: ErrForm at a type's node, if it is none.
func TestForm(t *testing.T) {
	for _, s := range []string{
		// Scalars that are no text, or no type's.
		"true", "1", "-7", "!a str", "!a ''", "''", "' '", "a b", "a.b", "ä", "'!'", "'!a b'", "\"a\\n\"", strings.Repeat("n", 33), "'~'", "'$t'", "'[seq str]'", "!null ''",
		// Collections of other tags, sequences, and keys that aren't those of a kind.
		"[]", "[str]", "{}", "!a {list: str}", "!map {list: str}", "!a {}", "{a: str}", "{list: str, a: str}", "{tag: seq}", "{rest: str}", "{by: k}", "{'': str}",
		"{list: str, by: k}", "{list: str, rest: str}", "{list: str, union: []}", "{list: str, record: {}}", "{list: str, enum: [a]}", "{list: str, keyed: str, by: k}",
		"{keyed: str}", "{keyed: str, tag: seq}", "{keyed: str, by: k, rest: str}", "{keyed: str, by: k, union: []}",
		"{union: [], tag: seq}", "{union: [], rest: str}", "{union: [], record: {}}", "{enum: [a], tag: str}", "{enum: [a], union: [str]}", "{enum: [a], rest: str}",
		"{record: {}, by: k}", "{record: {}, union: []}", "{record: {}, rest: str, tag: map, by: k}", "{record: {}, 'rest?': str}", "{rest: str, tag: map}",
		"{List: str}", "{' list': str}", "{lists: str}", "{lis: str}",
		// A tag, or by, that is no text.
		"{list: str, tag: ~}", "{list: str, tag: }", "{list: str, tag: []}", "{list: str, tag: {}}", "{list: str, tag: !a seq}", "{record: {}, tag: ~}", "{record: {}, tag: [map]}",
		"{keyed: str, by: ~}", "{keyed: str, by: [k]}", "{keyed: str, by: !a k}", "{keyed: str, by: }", "{keyed: str, by: k, tag: ~}", "{keyed: str, by: ~, tag: seq}",
		// No such collections.
		"{enum: []}", "{enum: a}", "{enum: ~}", "{enum: {}}", "{enum: {a: b}}", "{enum: !a [a]}", "{enum: !seq [a]}", "{enum: [a, 1]}", "{enum: [1, true]}", "{enum: [~, '']}", "{enum: [a, !a a]}",
		"{enum: [!a a, !b a]}", "{enum: [[]]}", "{enum: [a, []]}", "{enum: [{}]}", "{enum: [a, b, ~]}", "{enum: [a, {}, b]}",
		"{union: str}", "{union: ~}", "{union: {}}", "{union: {a: str}}", "{union: !a [str, int]}", "{union: !seq [str, int]}",
		"{record: []}", "{record: [a]}", "{record: str}", "{record: ~}", "{record: !a {a: str}}", "{record: !map {a: str}}", "{record: !map {}}", "{record: [], rest: str}",
		// Two keys that are alike.
		"{record: {a: str, 'a?': str}}", "{record: {'a?': str, b: str, a: str}}", "{record: {'': str, '?': str}}", "{record: {'a?': str, 'a??': str, 'a???': int, 'a!': int, a: int}}",
		"{record: {'a!': str, a: str, 'a.': str, 'a?': str}}",
	} {
		s = "  " + s
		d := doc(t, s)
		if got, want := told(schema.New(d), d.Root), wrong(api.ErrForm, 2); got != want {
			t.Errorf("%q: %s, not %s", s, got, want)
		}
	}
}

// P24.1: of several that are none the first is told: a type ahead of those in it, these by rising keys of the document.
func TestOrder(t *testing.T) {
	for s, at := range map[string]int{
		"{list: [a]}":                                  7,
		"{tag: ~, list: []}":                           0,
		"{list: {list: [], tag: ~}, tag: '!a'}":        7,
		"{union: [str, [], {}]}":                       14,
		"{union: [str, {list: []}, []]}":               21,
		"{union: [str, {list: [], tag: []}, []]}":      14,
		"{record: {b: [], a: {}}}":                     20,
		"{record: {b: {}, a: str}}":                    13,
		"{rest: [], record: {a: []}}":                  23,
		"{rest: [], record: {a: str}}":                 7,
		"{rest: [], record: {a: str, 'a?': str}}":      0,
		"{record: {'a?': [], 'a!': []}}":               26,
		"{record: {'a!b': {list: []}, 'a?': []}}":      24,
		"{record: {b: &x [], a: *x}}":                  13,
		"{union: [{list: &x []}, *x]}":                 16,
		"{by: k, keyed: [], tag: ''}":                  15,
		"{keyed: {record: {a: 1}}, by: k}":             21,
		"{record: {a: {enum: [a, 1]}, b: {enum: []}}}": 13,
	} {
		d := doc(t, s)
		if got, want := told(schema.New(d), 0), wrong(api.ErrForm, at); got != want {
			t.Errorf("%q: %s, not %s", s, got, want)
		}
	}
}

// P24.1: each node of a document may be asked; ErrForm at 0, if there is no such node.
func TestNumbers(t *testing.T) {
	d := doc(t, "  - &x str\n  - list: *x\n  - [any]\n  - {enum: [true]}")
	r := schema.New(d)
	for n, want := range []string{wrong(api.ErrForm, 2), "str", "[seq str]", wrong(api.ErrForm, 28), "any", `<bool "true">`, wrong(api.ErrForm, 45), wrong(api.ErrForm, 46)} {
		if got := told(r, n); got != want {
			t.Errorf("%d: %s, not %s", n, got, want)
		}
	}
	for _, n := range append(sketch.Odd(), len(d.Nodes)) {
		if got, want := told(r, n), wrong(api.ErrForm, 0); got != want {
			t.Errorf("%d: %s, not %s", n, got, want)
		}
		if x, f := r.Defs(n); f != (api.Fault{Errno: api.ErrForm}) || len(x.Names)+len(x.Types) != 0 {
			t.Errorf("%d: %v at %d, %+v", n, f, f.At, x)
		}
	}
}

// defs is what a reader tells of a node as definitions.
func defs(r *schema.Reader, n int) string {
	d, f := r.Defs(n)
	if f.Bad() {
		if len(d.Names)+len(d.Types) != 0 {
			return "something beside a fault"
		}
		return wrong(f.Errno, f.At)
	}
	if len(d.Names) != len(d.Types) || f != (api.Fault{}) {
		return "unlike numbers"
	}
	s := ""
	for i, x := range d.Types {
		s += d.Names[i] + "=" + typ.Show(x) + "@" + strconv.Itoa(x.At) + " "
	}
	return s
}

// P24.1: definitions are a mapping of the tag map: for each key, rising, the type behind it.
func TestDefs(t *testing.T) {
	for s, want := range map[string]string{
		"{}":                                   "",
		"a: str":                               "a=str@3 ",
		"b: {list: a}\na: b\n":                 "a=$b@16 b=[seq $a]@3 ",
		"'a?': int\na: str\n'': ~":             "=null@21 a=str@13 a?=int@6 ",
		"no name: {union: []}":                 "no name=()@9 ",
		"{a: &x {record: {a: str}}, b: *x}":    "a={map a:str}@4 b={map a:str}@4 ",
		"list: str":                            "list=str@6 ",
		"~":                                    wrong(api.ErrForm, 0),
		" str":                                 wrong(api.ErrForm, 1),
		" []":                                  wrong(api.ErrForm, 1),
		" !a {a: str}":                         wrong(api.ErrForm, 1),
		" !map {}":                             wrong(api.ErrForm, 1),
		"{b: [], a: {}}":                       wrong(api.ErrForm, 11),
		"{b: [], a: str}":                      wrong(api.ErrForm, 4),
		"{a: {list: []}, b: []}":               wrong(api.ErrForm, 11),
		"{a: str, b: {list: int, tag: [seq]}}": wrong(api.ErrForm, 12),
	} {
		d := doc(t, s)
		if got := defs(schema.New(d), d.Root); got != want {
			t.Errorf("%q: %s, not %s", s, got, want)
		}
	}
}

// P24.2: the text of a scalar of the tag str, bool or int; of all else none.
func TestText(t *testing.T) {
	for _, tag := range []string{"str", "bool", "int"} {
		for _, s := range []string{"", "x", "true", "1", "a\nb", "é", strings.Repeat("x", 1024)} {
			if got, ok := schema.Text(sketch.Scalar(tag, s)); !ok || got != s {
				t.Errorf("%s %q: %q, %v", tag, s, got, ok)
			}
		}
	}
	for _, x := range []graph.Node{
		{}, sketch.Scalar("null", ""), sketch.Scalar("null", "x"), sketch.Scalar("!a", "x"), sketch.Scalar("", "x"), sketch.Scalar("Str", "x"), sketch.Scalar("!str", "x"),
		sketch.Scalar("seq", "x"), sketch.Seq(), sketch.Map("a", 0), {Kind: graph.Seq, Tag: "str", Text: "x"}, {Kind: graph.Map, Tag: "int", Text: "1"}, {Tag: "str", Text: "x"}, {Kind: 4, Tag: "str", Text: "x"}, {Kind: -1, Tag: "bool", Text: "true"},
	} {
		if got, ok := schema.Text(x); ok || got != "" {
			t.Errorf("%+v: %q, %v", x, got, ok)
		}
	}
	d := doc(t, "[a, 'b', true, 1, ~, [], {}, !a b, '']")
	want := []string{"-", "a", "b", "true", "1", "-", "-", "-", "-", ""}
	for n, w := range want {
		if got, ok := schema.Text(d.Nodes[n]); ok != (w != "-") || ok && got != w {
			t.Errorf("%d: %q, %v", n, got, ok)
		}
	}
}
