package typ_test

import (
	"math"
	"reflect"
	"slices"
	"strconv"
	"strings"
	"testing"

	"stanhope/spell"
	"stanhope/typ"
)

// a is a text of that many a.
func a(n int) string { return strings.Repeat("a", n) }

func TestKinds(t *testing.T) {
	l := []typ.Kind{typ.Scalar, typ.Enum, typ.Record, typ.List, typ.Keyed, typ.Union, typ.Name, typ.Dag, typ.Any}
	if !slices.Equal(l, []typ.Kind{1, 2, 3, 4, 5, 6, 7, 8, 9}) {
		t.Error(l)
	}
}

// The chapter's example 1.
func TestExample(t *testing.T) {
	str, whole := typ.Type{Kind: typ.Scalar, Tag: "str"}, typ.Type{Kind: typ.Scalar, Tag: "int"}
	r := typ.Type{Kind: typ.Record, Tag: "map", Fields: []typ.Field{{Key: "a", Type: str}, {Key: "b", Optional: true, Type: whole}}}
	if got := typ.Show(r); got != "{map a:str b?:int}" {
		t.Error(got)
	}
	if f := typ.Check(typ.Defs{}, r); f.Bad() {
		t.Error(f, f.At)
	}
}

// P15.3: what is shown of types of each kind.
func TestShow(t *testing.T) {
	str, other := typ.Type{Kind: typ.Scalar, Tag: "str"}, typ.Type{Kind: typ.Scalar, Tag: "!o"}
	cases := []struct {
		of   typ.Type
		want string
	}{
		{str, "str"},
		{other, "!o"},
		{typ.Type{Kind: typ.Scalar, Tag: "no tag"}, "no tag"},
		{typ.Type{Kind: typ.Scalar}, ""},
		{typ.Type{Kind: typ.Dag}, "dag"},
		{typ.Type{Kind: typ.Any}, "any"},
		{typ.Type{Kind: typ.Name, Name: "n-1"}, "$n-1"},
		{typ.Type{Kind: typ.Name, Name: "a \xff"}, "$a \xff"},
		{typ.Type{Kind: typ.Name}, "$"},

		{typ.Type{Kind: typ.Enum, Tag: "str", Words: []string{"x"}}, `<str "x">`},
		{typ.Type{Kind: typ.Enum, Tag: "int", Words: []string{"-1", "0", "12"}}, `<int "-1" "0" "12">`},
		{typ.Type{Kind: typ.Enum, Tag: "null", Words: []string{""}}, `<null "">`},
		{typ.Type{Kind: typ.Enum, Tag: "!e", Words: []string{"\n", "\"\\", "a b", "é", "\u0085\xff"}}, `<!e "\n" "\"\\" "a b" "é" "\x85` + "\ufffd" + `">`},
		{typ.Type{Kind: typ.Enum, Tag: "str"}, "<str>"},
		{typ.Type{Kind: typ.Enum, Tag: "", Words: []string{"b", "a", "a"}}, `< "b" "a" "a">`},

		{typ.Type{Kind: typ.Record, Tag: "map"}, "{map}"},
		{typ.Type{Kind: typ.Record, Tag: "!r", Items: []typ.Type{str}}, "{!r *:str}"},
		{typ.Type{Kind: typ.Record, Tag: "map", Items: []typ.Type{str, other}}, "{map *:str *:!o}"},
		{typ.Type{Kind: typ.Record, Tag: "map", Fields: []typ.Field{{Key: "k", Type: str}}, Items: []typ.Type{other}}, "{map k:str *:!o}"},
		{typ.Type{Kind: typ.Record, Tag: "map", Fields: []typ.Field{{Key: "*", Type: str}, {Key: "a?", Optional: true, Type: other}}}, "{map '*':str 'a?'?:!o}"},
		{typ.Type{Kind: typ.Record, Tag: "map", Fields: []typ.Field{{Key: "", Type: str}, {Key: "a\n", Type: str}, {Key: "it's", Type: str}, {Key: "\xff", Type: str}, {Key: "null", Type: str}}},
			`{map '':str "a\n":str 'it''s':str "` + "\ufffd" + `":str null:str}`},
		{typ.Type{Kind: typ.Record, Fields: []typ.Field{{Key: "b"}, {Key: "a", Optional: true}}}, "{ b:? a?:?}"},

		{typ.Type{Kind: typ.List, Tag: "seq", Items: []typ.Type{str}}, "[seq str]"},
		{typ.Type{Kind: typ.List, Tag: "!l", Items: []typ.Type{{Kind: typ.List, Tag: "seq", Items: []typ.Type{other}}}}, "[!l [seq !o]]"},
		{typ.Type{Kind: typ.List, Tag: "seq"}, "[seq ]"},
		{typ.Type{Kind: typ.List, Tag: "seq", Items: []typ.Type{str, other, str}}, "[seq str !o str]"},

		{typ.Type{Kind: typ.Keyed, Tag: "seq", Name: "k", Items: []typ.Type{str}}, "[seq by k str]"},
		{typ.Type{Kind: typ.Keyed, Tag: "!k", Name: "a b", Items: []typ.Type{{Kind: typ.Name, Name: "r"}}}, "[!k by 'a b' $r]"},
		{typ.Type{Kind: typ.Keyed, Tag: "seq", Name: "\t", Items: []typ.Type{str, other}}, `[seq by "\t" str !o]`},
		{typ.Type{Kind: typ.Keyed, Tag: "seq", Name: ""}, "[seq by '' ]"},

		{typ.Type{Kind: typ.Union, Items: []typ.Type{str, other}}, "(str|!o)"},
		{typ.Type{Kind: typ.Union, Items: []typ.Type{str, {Kind: typ.Union, Items: []typ.Type{other, str, {Kind: typ.Any}}}}}, "(str|(!o|str|any))"},
		{typ.Type{Kind: typ.Union, Items: []typ.Type{str}}, "(str)"},
		{typ.Type{Kind: typ.Union}, "()"},
	}
	for _, c := range cases {
		if got := typ.Show(c.of); got != c.want {
			t.Errorf("%+v: %q, not %q", c.of, got, c.want)
		}
		if got := typ.Show(spell.Noisy(c.of)); got != c.want {
			t.Errorf("%+v: %q, not %q", spell.Noisy(c.of), got, c.want)
		}
	}
	for _, k := range []typ.Kind{0, -1, 10, math.MinInt, math.MaxInt} {
		if got := typ.Show(typ.Type{Kind: k, Tag: "str", Name: "x", Items: []typ.Type{str}}); got != "?" {
			t.Errorf("%d: %q", k, got)
		}
	}
}

// alike are types that may be (with the name n) of which no two are alike.
var alike = []string{
	"null", "bool", "int", "str", "!s", "!t", "dag", "any", "$n", "$m",
	`<str "a">`, `<str "b">`, `<str "a" "b">`, `<!s "a">`, `<int "1">`, `<str "1">`, `<str "a b">`, `<str "a\" \"b">`, `<null "">`, `<str "">`,
	"{map}", "{!s}", "{map a:str}", "{map a?:str}", "{map b:str}", "{map a:int}", "{map a:str b:str}", "{map a:str b?:str}", "{map *:str}", "{map *:int}",
	"{map a:str *:str}", "{map a:str *:any}", "{map '*':str}", "{map 'a?':str}", "{map '':str}", "{map 'a:str b':str}", "{map A:str}", "{map a:{map a:str}}", "{map a:{map} b:str}", "{map a:{map b:str}}",
	"[seq str]", "[seq int]", "[!s str]", "[seq [seq str]]", "[seq any]", "[seq $n]", "[seq {map k:str}]",
	"[seq by k {map k:str}]", "[!s by k {map k:str}]", "[seq by k {map k:int}]", "[seq by l {map k:str l:str}]", "[seq by k {map k:str l:str}]", "[seq by ' k' {map ' k':str}]",
	"(str|int)", "(int|str)", "(str|int|bool)", "((str|int)|bool)", "(str|(int|bool))", "({map}|[seq str])", "(<str \"a\">|int)", "($n|int)",
}

// P15.3, P15.4: each of many types is alike with itself alone, whatever its places and what plays no part.
func TestSame(t *testing.T) {
	d := spell.Defs("m=str n=str")
	for i, s := range alike {
		x := spell.Type(s)
		if f := typ.Check(d, x); f.Bad() {
			t.Errorf("%s: %v at %d", s, f, f.At)
		}
		if got := typ.Show(x); got != s {
			t.Errorf("%s: %s", s, got)
		}
		for j, u := range alike {
			y := spell.Type(u)
			for _, z := range []typ.Type{y, spell.Noisy(y)} {
				if typ.Same(x, z) != (i == j) || typ.Same(z, x) != (i == j) {
					t.Errorf("%s and %s: same %v", s, u, i != j)
				}
			}
			if (typ.Show(x) == typ.Show(y)) != (i == j) {
				t.Errorf("%s and %s show %s", s, u, typ.Show(x))
			}
		}
	}
}

// R4: nil and empty lists are one.
func TestEmpty(t *testing.T) {
	x := typ.Type{Kind: typ.Record, Tag: "map"}
	y := typ.Type{Kind: typ.Record, Tag: "map", Words: []string{}, Fields: []typ.Field{}, Items: []typ.Type{}}
	d := typ.Defs{Names: []string{}, Types: []typ.Type{}}
	if !typ.Same(x, y) || !typ.Same(y, x) || typ.Show(y) != "{map}" || typ.Check(d, y).Bad() || d.Check().Bad() {
		t.Error(typ.Same(x, y), typ.Show(y), typ.Check(d, y), d.Check())
	}
}

// chained are definitions of n names, each of which is the next one, and the last one a type.
func chained(n int, last typ.Type) typ.Defs {
	var d typ.Defs
	name := func(i int) string { return "n" + strconv.Itoa(100000+i) }
	for i := range n {
		d.Names = append(d.Names, name(i))
		d.Types = append(d.Types, typ.Type{Kind: typ.Name, At: i, Name: name(i + 1)})
	}
	if n > 0 {
		d.Types[n-1] = last
	}
	return d
}

// P15.2: what is resolved, and what can't be.
func TestResolve(t *testing.T) {
	const defs = "a=str b=$a c=$b d=$d e=$f f=$e g=$e h=$x i=(str|$i) j=$i k=[seq $d] l=foo m=?"
	cases := []struct{ of, want string }{
		{"str", "str"},
		{"$a", "str"},
		{"$b", "str"},
		{"$c", "str"},
		{"$i", "(str|$i)"},
		{"$j", "(str|$i)"},
		{"$k", "[seq $d]"},
		{"$l", "foo"},
		{"$m", "?"},
		{"[seq $b]", "[seq $b]"},
		{"($a|$b)", "($a|$b)"},
		{"{map a:$x}", "{map a:$x}"},
		{"dag", "dag"},
		{"any", "any"},
		{"?", "?"},
		{"$d", ""},
		{"$e", ""},
		{"$f", ""},
		{"$g", ""},
		{"$h", ""},
		{"$x", ""},
		{"$", ""},
		{"$A", ""},
		{"$aa", ""},
		{"$z", ""},
	}
	d := spell.Defs(defs)
	for _, c := range cases {
		got, ok := typ.Resolve(d, spell.Type(c.of))
		if ok != (c.want != "") || ok && typ.Show(got) != c.want || got.Kind == typ.Name {
			t.Errorf("%s: %s, %v, not %s", c.of, typ.Show(got), ok, c.want)
		}
		if !ok && !reflect.DeepEqual(got, typ.Type{}) {
			t.Errorf("%s: %+v beside a false", c.of, got)
		}
	}
	// A type that is resolved has the place where it is defined, and its own, if it is no Name.
	if got, _ := typ.Resolve(d, spell.Type("$c")); got.At != strings.Index(defs, "str") {
		t.Error(got.At)
	}
	if got, _ := typ.Resolve(d, typ.Type{Kind: typ.Any, At: 5}); got.At != 5 {
		t.Error(got.At)
	}
}

// P15.2: names that lead to many others, and definitions that may not be.
func TestResolveOdd(t *testing.T) {
	str := spell.Type("str")
	for _, n := range []int{1, 2, 3, 400, 5000} {
		d := chained(n, str)
		for _, i := range []int{0, n / 2, n - 1} {
			if got, ok := typ.Resolve(d, typ.Type{Kind: typ.Name, Name: d.Names[i]}); !ok || !typ.Same(got, str) {
				t.Errorf("%d of %d: %+v, %v", i, n, got, ok)
			}
			// All of them, or only the last one, turn.
			for _, to := range []int{0, n - 1} {
				d := chained(n, typ.Type{Kind: typ.Name, Name: d.Names[to]})
				if got, ok := typ.Resolve(d, typ.Type{Kind: typ.Name, Name: d.Names[i]}); ok {
					t.Errorf("%d of %d: %+v", i, n, got)
				}
			}
		}
	}
	d := spell.Defs("c=$b b=str d=$a a=int")
	for i, want := range []string{"str", "str", "int", "int"} {
		if got, ok := typ.Resolve(d, typ.Type{Kind: typ.Name, Name: d.Names[i]}); !ok || typ.Show(got) != want {
			t.Errorf("%s: %+v, %v", d.Names[i], got, ok)
		}
	}
	few := typ.Defs{Names: []string{"a", "b", "c"}, Types: []typ.Type{str}}
	for i, n := range few.Names {
		if got, ok := typ.Resolve(few, typ.Type{Kind: typ.Name, Name: n}); ok != (i == 0) {
			t.Errorf("%s: %+v, %v", n, got, ok)
		}
	}
}

// P15.2: heads.
func TestHeads(t *testing.T) {
	d := spell.Defs("a=str b=$a c=($b|{map}) d=$d e=(str|$f) f=[seq $e] g=(str|$h) h=(int|$g) i=() j=any k=(str|$x) l=(bool|$a|$a) m=?")
	cases := []struct{ of, want string }{
		{"str", ".str"},
		{"!o", ".!o"},
		{"foo", ".foo"},
		{`<int "1" "2">`, ".int"},
		{"{map}", "{map"},
		{"{!r a:any}", "{!r"},
		{"[seq any]", "[seq"},
		{"[!l $x]", "[!l"},
		{"[!k by k $x]", "[!k"},
		{"(str|int)", ".int .str"},
		{"({map}|[seq any]|str|{!a}|[!a any]|!a|!0)", ".!0 .!a .str [!a [seq {!a {map"},
		{"(str|(int|(bool|null)))", ".bool .int .null .str"},
		{"(str|str)", ".str"},
		{`(<int "1">|int|(str|int)|$a)`, ".int .str"},
		{"$b", ".str"},
		{"$c", ".str {map"},
		{"($c|$c|$b)", ".str {map"},
		{"$e", ".str [seq"},
		{"($e|$f)", ".str [seq"},
		{"$l", ".bool .str"},
		// Nothing is met that has none, but nothing either that has any.
		{"()", ""},
		{"(()|())", ""},
		{"$i", ""},
		{"($i|str)", ".str"},
		// No more than this is met.
		{"{map a:any b:$d *:$x}", "{map"},
		{"[seq $d]", "[seq"},
		// A type that has none.
		{"dag", "none"},
		{"any", "none"},
		{"?", "none"},
		{"$j", "none"},
		{"$m", "none"},
		{"(str|dag)", "none"},
		{"(any|str)", "none"},
		{"(str|(int|any))", "none"},
		{"(str|$j)", "none"},
		{"(str|?)", "none"},
		// A Name that isn't defined.
		{"$x", "none"},
		{"$", "none"},
		{"(str|$x)", "none"},
		{"$k", "none"},
		{"(int|$k)", "none"},
		// One that leads back to itself.
		{"$d", "none"},
		{"$g", "none"},
		{"$h", "none"},
		{"(bool|$g)", "none"},
		{"(bool|(null|$h))", "none"},
	}
	for _, c := range cases {
		for _, x := range []typ.Type{spell.Type(c.of), spell.Noisy(spell.Type(c.of))} {
			got, ok := typ.Heads(d, x)
			want := strings.Fields(strings.TrimSuffix(c.want, "none"))
			if ok != (c.want != "none") || !slices.Equal(got, want) {
				t.Errorf("%s: %q, %v, not %q", c.of, got, ok, want)
			}
		}
	}
	for _, k := range []typ.Kind{-1, 10, math.MinInt, math.MaxInt} {
		if got, ok := typ.Heads(d, typ.Type{Kind: k, Tag: "str"}); ok || len(got) > 0 {
			t.Errorf("%d: %q", k, got)
		}
	}
}
