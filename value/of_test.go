package value_test

import (
	"testing"

	"stanhope/carve"
	"stanhope/spell"
	"stanhope/typ"
	"stanhope/value"
)

// defined are definitions that the tables' types use.
const defined = "any=any dag=dag end={map} int=int item={map k:$key *:any} key=<str \"a\" \"b\"> long=$many many=(str|[seq $many]|{map *:$many}) node={map l?:$node r?:$node v:int} pair=(int|bool) to=$int"

// asked are a type, and texts of values that are of it, and that aren't.
type asked struct {
	typ     string
	are, no []string
}

// tables are of each kind of type.
var tables = []asked{
	{"str", []string{"x", "''", "'1'"}, []string{"1", "~", "true", "!a x", "[]", "{}", "!leaf 0", "[x]", "{a: x}"}},
	{"null", []string{"~"}, []string{"'null'", "x", "0"}},
	{"bool", []string{"true", "false"}, []string{"'true'", "0"}},
	{"int", []string{"0", "-12"}, []string{"'0'", "true"}},
	{"!a", []string{"!a x", "!a ''", "!a 1"}, []string{"x", "!b x", "!a [x]", "!a {a: x}", "!a []"}},
	{`<str "a" "b" "d">`, []string{"a", "b", "d"}, []string{"c", "''", "e", "!a a", "[a]", "~", "A", "ab", "!leaf 0"}},
	{`<int "-1" "10" "9">`, []string{"-1", "10", "9"}, []string{"'9'", "1", "0"}},
	{`<!a "" "x">`, []string{"!a ''", "!a x"}, []string{"x", "''", "!b x", "!a [x]"}},
	{`<null "">`, []string{"~"}, []string{"''"}},
	{"{map}", []string{"{}"}, []string{"{a: x}", "!a {}", "[]", "x", "!leaf 0", "~"}},
	{"{!a}", []string{"!a {}"}, []string{"{}", "!b {}", "!a []", "!a x"}},
	{"{map a:str}", []string{"{a: x}"}, []string{"{}", "{b: x}", "{a: 1}", "{a: x, b: x}", "{'': x, a: x}", "[x]", "!a {a: x}", "{a: {a: x}}", "{A: x}", "{aa: x}"}},
	{"{map a?:str}", []string{"{a: x}", "{}"}, []string{"{a: 1}", "{b: x}", "{a: x, b: x}", "{a: !leaf 0}"}},
	{"{map a:str b?:int c:str}", []string{"{a: x, c: y}", "{a: x, b: 1, c: y}"}, []string{"{a: x, b: 1}", "{b: 1, c: x}", "{a: x, b: y, c: y}", "{a: x, b: 1, c: y, d: z}", "{a: x}", "{c: x}", "{}", "{a: x, bb: 1, c: y}"}},
	{"{map *:int}", []string{"{}", "{a: 1}", "{'': 1, a: 2, b: 3}"}, []string{"{a: x}", "{a: 1, b: x}", "{a: x, b: 1}", "[1]"}},
	{"{map b:str *:int}", []string{"{b: x}", "{a: 1, b: x, c: 2}"}, []string{"{a: 1}", "{b: 1}", "{a: x, b: x}", "{b: x, c: x}", "{}"}},
	{"{!m a?:str *:{map *:int}}", []string{"!m {}", "!m {a: x, b: {}, c: {d: 1}}", "!m {b: {}}"}, []string{"!m {a: {}}", "!m {b: x}", "!m {b: {c: x}}", "{}"}},
	{"[seq int]", []string{"[]", "[1]", "[1, 1, 2]"}, []string{"[x]", "[1, x]", "[x, 1]", "[[]]", "!a [1]", "{}", "1", "[!leaf 0]", "!leaf 0"}},
	{"[!a int]", []string{"!a []", "!a [1]"}, []string{"[]", "!b []", "!a {}", "!a 1"}},
	{"[seq [seq str]]", []string{"[]", "[[]]", "[[x], [], [x, y]]"}, []string{"[x]", "[[[]]]", "[[], [1]]"}},
	{"[seq by k {map k:str v?:int}]", []string{"[]", "[{k: x}]", "[{k: x}, {k: y}, {k: '', v: 1}]", "[{k: x, v: 1}, {k: y, v: 1}]"},
		[]string{"[{k: x}, {k: x}]", "[{k: x}, {k: y}, {k: x, v: 1}]", "[{v: 1}]", "[{k: 1}]", "[x]", "{k: x}", "!a [{k: x}]", "[{k: x}, {k: y}, {k: z}, {k: y}]", "[{k: x}, !leaf 0]"}},
	{"[!a by k $item]", []string{"!a [{k: a}, {b: !leaf 3, k: b}]"}, []string{"!a [{k: c}]", "!a [{k: a}, {k: a}]", "!a [{k: a, x: x}]", "[]"}},
	{"[seq by '' {!r '':!k}]", []string{"[!r {'': !k a}, !r {'': !k b}]"}, []string{"[!r {'': !k a}, !r {'': !k a}]", "[!r {'': a}]", "[{'': !k a}]"}},
	// Keys' Texts alone are unlike: each item has another one only behind the key.
	{"[seq by k {map a:str k:int}]", []string{"[{a: x, k: 1}, {a: x, k: 2}]", "[{a: '1', k: 2}, {a: '2', k: 1}]"}, []string{"[{a: x, k: 1}, {a: y, k: 1}]"}},
	{"(int|str)", []string{"1", "x"}, []string{"true", "~", "[]", "{}", "!leaf 0", "!a x"}},
	{"(<int \"1\">|[seq int]|{map a:int}|!a|{!a}|[!a str])", []string{"1", "[1, 2]", "{a: 3}", "!a x", "!a {}", "!a [x]"},
		[]string{"2", "x", "[x]", "{}", "{b: 3}", "!a {a: x}", "!a [1]", "!b x", "{a: x}"}},
	{"(str|(bool|(int|[seq $many])))", []string{"x", "true", "1", "[x, [y]]"}, []string{"~", "[1]", "{}"}},
	{"(str|$pair|$end)", []string{"x", "true", "1", "{}"}, []string{"~", "{a: x}", "[]"}},
	{"[seq (str|$pair)]", []string{"[x, 1, true, x]"}, []string{"[x, 1, ~]", "[x, [1]]"}},
	{"$int", []string{"1"}, []string{"x", "!leaf 0"}},
	{"$to", []string{"1"}, []string{"x"}},
	{"$many", []string{"x", "[]", "[[], [x, [y]], {a: z, b: [{}]}]"}, []string{"1", "[1]", "[[], [x, [y]], {a: z, b: [{c: 1}]}]", "[!leaf 0]"}},
	{"$long", []string{"x", "[x]"}, []string{"1", "!a x"}},
	{"$node", []string{"{v: 1}", "{l: {v: 1}, r: {l: {v: 2}, v: 3}, v: 4}"}, []string{"{}", "{l: {}, v: 1}", "{l: {v: 1}, r: {l: {v: x}, v: 3}, v: 4}", "!leaf 0"}},
	{"any", []string{"!leaf 0", "!leaf 7"}, []string{"x", "[]", "{}", "[!leaf 0]", "~"}},
	{"dag", []string{"!leaf 0", "!leaf 7"}, []string{"x", "[]", "{}", "[!leaf 0]", "~"}},
	{"$any", []string{"!leaf 1"}, []string{"x"}},
	{"$dag", []string{"!leaf 1"}, []string{"x"}},
	{"{map a:any b?:dag}", []string{"{a: !leaf 1}", "{a: !leaf 1, b: !leaf 1}"}, []string{"{a: x}", "{a: !leaf 1, b: x}", "{b: !leaf 1}", "!leaf 1"}},
	{"[seq any]", []string{"[]", "[!leaf 3, !leaf 2, !leaf 3]"}, []string{"[!leaf 3, x]", "[x]", "!leaf 3", "[[!leaf 3]]"}},
	{"([seq any]|{map *:dag})", []string{"[!leaf 1]", "{a: !leaf 1}"}, []string{"!leaf 1", "[[]]", "{a: {}}"}},
}

// P16.3: whether values are of types of each kind, with what plays no part in either.
func TestOf(t *testing.T) {
	d := spell.Defs(defined)
	if f := d.Check(); f.Bad() {
		t.Fatal(f, f.At)
	}
	for _, c := range tables {
		x := spell.Type(c.typ)
		if f := typ.Check(d, x); f.Bad() {
			t.Fatal(c.typ, f, f.At)
		}
		for i, s := range append(c.are, c.no...) {
			want := i < len(c.are)
			for _, v := range []value.Value{of(s), carve.Noisy(of(s))} {
				if value.Of(d, x, v) != want || value.Of(d, spell.Noisy(x), v) != want {
					t.Errorf("%s of %s: %v", s, c.typ, !want)
				}
			}
		}
	}
}

// mayNot are texts of types that may not be, and wrongly definitions that may not be with names that these use.
var mayNot = []string{
	"?", "", "foo", "<str>", "<str \"b\" \"a\">", "{foo}", "{map b:str a:str}", "{map a:str a:int}", "{map *:str *:int}", "[seq ]", "[seq any any]", "[foo str]",
	"[seq by k any]", "[seq by k str]", "[seq by k {map}]", "[seq by k {map k?:str}]", "[seq by k {map k:any}]", "[seq by k ]", "[seq by k $none]", "[seq by k $turn]", "[seq by k (str|str)]",
	"()", "(str)", "(str|str)", "(any|str)", "(str|$loop)", "($loop|$loop)", "$none", "$turn", "$loop", "[seq $turn]", "{map a:$loop}", "(str|$none)", "(str|$turn)", "(str|(int|$loop))", "$bare", "$deep",
}

const wrongly = "bare=() deep=($ring|$ring|str) loop=(str|$loop) ring=(int|$deep) turn=$turn"

// R1, R6: of types and values that may not be there is an end.
func TestOfOdd(t *testing.T) {
	d := spell.Defs(wrongly)
	l := append(oddly(), mapping("a", "b"), carve.Leaf(-1))
	for _, s := range apart {
		l = append(l, of(s))
	}
	for _, s := range mayNot {
		for _, v := range l {
			value.Of(d, spell.Type(s), v)
			value.Of(d, spell.Noisy(spell.Type(s)), carve.Noisy(v))
			value.Of(typ.Defs{Names: d.Names}, spell.Type(s), carve.Seq(v, v))
		}
	}
	for _, c := range tables {
		for _, v := range oddly() {
			value.Of(spell.Defs(defined), spell.Type(c.typ), v)
			value.Of(spell.Defs(defined), spell.Type(c.typ), carve.Seq(v, v))
			value.Of(spell.Defs(defined), spell.Type(c.typ), carve.Keyed("k", v))
		}
	}
}
