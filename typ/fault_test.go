package typ_test

import (
	"math"
	"slices"
	"strings"
	"testing"

	"stanhope/api"
	"stanhope/spell"
	"stanhope/typ"
)

// told is a fault, and the place at which it is marked in a text by ^.
func told(s string, f api.Fault) string {
	if !f.Bad() {
		return s
	}
	return f.Word() + " at " + s[:f.At] + "^" + s[f.At:]
}

// faults are errors, and texts in each of which the place at which it is told is marked by ^; there is none, if nothing is wrong.
type faults []struct{ word, text string }

// hold holds what Check says of the types that are written so.
func (l faults) hold(t *testing.T, d typ.Defs) {
	t.Helper()
	for _, c := range l {
		s, want := strings.Replace(c.text, "^", "", 1), c.text
		if c.word != "" {
			want = c.word + " at " + c.text
		}
		if got := told(s, typ.Check(d, spell.Type(s))); got != want {
			t.Errorf("%.300s, not %.300s", got, want)
		}
	}
}

// P15.1: types that may be.
func TestRight(t *testing.T) {
	for _, s := range alike {
		faults{{"", s}}.hold(t, spell.Defs("m=str n=str"))
	}
	faults{
		{"", `<bool "false" "true">`},
		{"", `<int "-1" "-10" "0" "10" "9">`},
		{"", `<str "" "A" "a" "aa" "b" "é">`},
		{"", "<str '" + a(1024) + "'>"},
		{"", "<!a \"\\n\">"},
		{"", "!" + a(32)},
		{"", "{map A?:any a:any aa?:any b:dag 'é':any}"},
		{"", "{map '':any \"\\n\":any}"},
		{"", "{map " + a(1024) + ":any}"},
		{"", "{map *:{map *:{!a *:[!b any]}}}"},
		{"", "[seq by k {map k:<str \"a\">}]"},
		{"", "[seq by k {map a:any k:!k z?:any *:any}]"},
		{"", "[seq by '' {!o '':null}]"},
		{"", "[seq by k $r]"},
		{"", "[seq by k $q]"},
		{"", "[seq by k {map k:$t}]"},
		{"", "(null|bool|int|str|!a|{map}|{!a}|[seq any]|[!a any])"},
		{"", "($t|$r|[seq $u]|$l)"},
		{"", "$u"},
		{"", "[seq $u]"},
		// Of definitions' types nothing is asked but what is resolved.
		{"", "$w"},
		{"", "{map a:$w}"},
		{"", "($w|int)"},
		{"", "$v"},
		{"", "$y"},
		{"", "[seq by k $z]"},
		{"", "(int|$x)"},
		{"", "(str|$e)"},
	}.hold(t, spell.Defs("e=() l=[!l $l] q=$r r={!r k:$t} s=str t=$s u=(str|[seq $u]) v=(str) w=foo x=(str|str) y=[seq $none] z={map b:foo k:str k?:any a:$none}"))
	// A key has a Name of any length, and what is said of a Keyed is said of the Record's Field.
	long := typ.Type{Kind: typ.Keyed, Tag: "seq", Name: a(1025), Items: []typ.Type{spell.Type("$r")}}
	d := typ.Defs{Names: []string{"r"}, Types: []typ.Type{spell.Type("{map " + a(1025) + ":str}")}}
	if f := typ.Check(d, long); f.Bad() {
		t.Error(f, f.At)
	}
}

// P15.1: ErrForm, of each kind.
func TestForm(t *testing.T) {
	faults{
		{"form", "^?"},
		{"form", "^"},
		{"form", "^foo"},
		{"form", "^seq"},
		{"form", "^map"},
		{"form", "^!"},
		{"form", "^!a.b"},
		{"form", "^!" + a(33)},
		{"form", "^Str"},
		{"form", "^a"},

		{"form", "^<str>"},
		{"form", "^<seq \"a\">"},
		{"form", "^< \"a\">"},
		{"form", "^<! \"a\">"},
		{"form", "^<str \"b\" \"a\">"},
		{"form", "^<str \"a\" \"a\">"},
		{"form", "^<str \"a\" \"b\" \"b\">"},
		{"form", "^<str \"a\" \"c\" \"b\">"},
		{"form", "^<str \"\" \"\">"},
		{"form", "^<int \"9\" \"10\">"},
		{"form", "^<int \"-0\">"},
		{"form", "^<int \"1\" \"2\" \"x\">"},
		{"form", "^<int \"\">"},
		{"form", "^<bool \"False\">"},
		{"form", "^<null \"null\">"},
		{"form", "^<null \"\" \"~\">"},
		{"form", "^<str '\xff'>"},
		{"form", "^<str \"a\" '\xc3'>"},
		{"form", "^<!a '\xff'>"},

		{"form", "^{str}"},
		{"form", "^{seq}"},
		{"form", "^{}"},
		{"form", "^{! *:any}"},
		{"form", "^{map b:any a:any}"},
		{"form", "^{map a:any a:any}"},
		{"form", "^{map a:any b:any b?:any}"},
		{"form", "^{map a:any c:any b:any}"},
		{"form", "^{map a:any A:any}"},
		{"form", "^{map '\xff':any}"},
		{"form", "^{map a:any '\xed\xa0\x80':any}"},
		{"form", "^{map " + a(1025) + ":any}"},
		{"form", "^{map *:any *:any}"},
		{"form", "^{map a:any *:any *:any *:any}"},

		{"form", "^[map any]"},
		{"form", "^[ any]"},
		{"form", "^[str any]"},
		{"form", "^[! any]"},
		{"form", "^[seq ]"},
		{"form", "^[seq any any]"},
		{"form", "^[!a any any any]"},

		{"form", "^[map by k {map k:str}]"},
		{"form", "^[seq by k ]"},
		{"form", "^[seq by k {map k:str} {map k:str}]"},
		{"form", "^[seq by '\xff' {map k:str}]"},

		{"form", "^()"},
		{"form", "^(str)"},
		{"form", "^($s)"},
		{"form", "^((str|int))"},
	}.hold(t, spell.Defs("s=str"))
	long := typ.Type{Kind: typ.Enum, At: 3, Tag: "str", Words: []string{a(1024), a(1025)}}
	if f := typ.Check(typ.Defs{}, long); f != (api.Fault{Errno: api.ErrForm, At: 3}) {
		t.Error(f, f.At)
	}
	for _, k := range []typ.Kind{0, -1, 10, math.MinInt, math.MaxInt} {
		x := typ.Type{Kind: k, At: -5, Tag: "str", Name: "s", Words: []string{"a"}, Items: []typ.Type{spell.Type("?")}}
		if f := typ.Check(spell.Defs("s=str"), x); f != (api.Fault{Errno: api.ErrForm, At: -5}) {
			t.Errorf("%d: %v at %d", k, f, f.At)
		}
	}
}

// P15.1: ErrForm of a Keyed, as a whole.
func TestKeyed(t *testing.T) {
	faults{
		{"form", "^[seq by k any]"},
		{"form", "^[seq by k str]"},
		{"form", "^[seq by k {map}]"},
		{"form", "^[seq by k {map *:str}]"},
		{"form", "^[seq by k {map l:str}]"},
		{"form", "^[seq by k {map K:str}]"},
		{"form", "^[seq by '' {map k:str}]"},
		{"form", "^[seq by k {map k?:str}]"},
		{"form", "^[seq by k {map k:any}]"},
		{"form", "^[seq by k {map k:dag}]"},
		{"form", "^[seq by k {map k:{map}}]"},
		{"form", "^[seq by k {map k:[seq str]}]"},
		{"form", "^[seq by k {map k:(str|int)}]"},
		{"form", "^[seq by k {map k:$union}]"},
		{"form", "^[seq by k [seq {map k:str}]]"},
		{"form", "^[seq by k ({map k:str}|{!m k:str})]"},
		{"form", "^[seq by k $str]"},
		{"form", "^[seq by k $union]"},
		{"form", "^[seq by " + a(1025) + " {map k:str}]"},
		{"form", "[seq ^[seq by k {map k:any}]]"},
		// Of what is defined otherwise than may be, what it resolves to counts.
		{"form", "^[seq by k $loops]"},
		{"form", "^[seq by k $lacks]"},
		{"form", "^[seq by k $perhaps]"},
		{"", "[seq by k $twice]"},
		// Behind its own and its item's.
		{"form", "^[foo by k {map k:any a:any}]"},
		{"form", "[seq by k ^{map k:any a:any}]"},
		{"form", "[seq by k {map k:any l:^foo}]"},
		{"form", "[seq by k {map k:^foo}]"},
		{"name", "[seq by k ^$none]"},
		{"name", "[seq by k {map k:^$none}]"},
		{"loop", "[seq by k ^$self]"},
		{"loop", "[seq by k {map k:^$self}]"},
		{"form", "^[seq by '\xff' $none]"},
	}.hold(t, spell.Defs("lacks={map k:$none} loops={map k:$self} perhaps={map k?:str} self=$self str=str twice={map k?:any k:any k:str} union=(str|int)"))
}

// P15.1: ErrName and ErrLoop of a Name.
func TestNames(t *testing.T) {
	faults{
		{"name", "^$x"},
		{"name", "^$"},
		{"name", "^$A"},
		{"name", "^$aa"},
		{"name", "^$b"},
		{"name", "^$c"},
		{"name", "[seq ^$x]"},
		{"name", "[seq ^$c]"},
		{"name", "{map a:str b:^$b c:$x}"},
		{"name", "{map *:^$x}"},
		{"name", "(str|^$x)"},
		{"name", "(^$c|int|$d)"},
		{"loop", "^$d"},
		{"loop", "^$e"},
		{"loop", "^$f"},
		{"loop", "^$g"},
		{"loop", "{!a a:{map *:^$d}}"},
		{"loop", "(str|^$g)"},
		{"", "{map a:$a}"},
	}.hold(t, spell.Defs("a=str b=$x c=$b d=$d e=$f f=$e g=$e"))
	faults{{"name", "^$a"}}.hold(t, typ.Defs{})
	faults{{"", "$a"}, {"name", "^$b"}}.hold(t, typ.Defs{Names: []string{"a", "b"}, Types: []typ.Type{spell.Type("str")}})
	faults{{"", "$a"}, {"", "$b"}, {"", "($a|$b|$c)"}, {"name", "^$d"}}.hold(t, spell.Defs("b=$a c=bool a=str b=int"))
}

// P15.1: ErrForm and ErrLoop of a Union, as a whole.
func TestUnion(t *testing.T) {
	faults{
		// No heads.
		{"form", "^(str|any)"},
		{"form", "^(dag|str)"},
		{"form", "^(dag|any)"},
		{"form", "^(str|$any)"},
		{"form", "^(int|$hasany)"},
		{"form", "^(int|$haswrong)"},
		{"form", "^(int|$lacks)"},
		// One in common.
		{"form", "^(str|str)"},
		{"form", "^(str|int|str)"},
		{"form", "^(str|<str \"a\">)"},
		{"form", "^(<str \"a\">|<str \"b\">)"},
		{"form", "^({map a:str}|{map b:str})"},
		{"form", "^([seq str]|[seq int])"},
		{"form", "^([seq by k {map k:str}]|[seq str])"},
		{"form", "^($a|str)"},
		{"form", "^($a|$a)"},
		{"form", "^((str|int)|(bool|int))"},
		{"form", "^((str|(int|bool))|null|bool)"},
		{"form", "^(!a|{!a}|[!a any]|!a)"},
		{"form", "^(str|$rec)"},
		{"form", "^($rec|$rec)"},
		// Alike but for the kind, or the tag.
		{"", "(!a|{!a}|[!a any]|!b)"},
		{"", "((str|int)|(bool|null))"},
		{"", "($rec|{map a:$rec})"},
		{"", "(bool|$hasunions)"},
		// The innermost first.
		{"form", "((str|int)|^(bool|bool)|(str|str))"},
		{"form", "(^(str|str)|$loop)"},
		// One that leads back to itself.
		{"loop", "^(int|$loop)"},
		{"loop", "^($loop|$loop)"},
		{"loop", "^(int|$to)"},
		{"loop", "^(int|$deep)"},
		{"loop", "^(str|str|$loop)"},
		{"loop", "^(any|$loop)"},
		{"loop", "^($loop|any)"},
		{"loop", "^($lacks|$loop)"},
		{"loop", "^(int|$lackloop)"},
		{"loop", "(bool|^(int|$loop))"},
		{"loop", "[seq ^(int|$ring1)]"},
		{"loop", "[seq ^(int|$ring3)]"},
		{"loop", "^(int|$hasself)"},
		{"", "$loop"},
		{"", "[seq $ring1]"},
		// Behind its own, and its Items'.
		{"form", "^($loop)"},
		{"form", "(any|^foo)"},
		{"name", "(any|^$none|$loop)"},
		{"loop", "(str|str|^$self)"},
		{"form", "(^[seq any any]|$loop)"},
	}.hold(t, spell.Defs("a=str any=any deep=(bool|(str|(null|$loop))) hasany=(str|any) hasself=(str|$self) hasunions=(null|(int|$a)) haswrong=(str|?) lackloop=($none|$loop) lacks=(str|$none) "+
		"loop=(str|$loop) rec=(str|[seq $rec]) ring1=(str|$ring2) ring2=$ring3 ring3=(null|$ring1) self=$self to=$loop"))
}

// P15.1: which of several is the first.
func TestFirst(t *testing.T) {
	faults{
		{"form", "^{foo a:foo *:$none}"},
		{"form", "{map a:^foo b:$none *:$self}"},
		{"name", "{map a:str b:^$none c:foo *:$self}"},
		{"loop", "{map a:^$self b:foo *:$none}"},
		{"loop", "{map a:str *:^$self}"},
		{"form", "{map a:[seq [seq ^foo]] b:foo}"},
		{"form", "{map a:[seq any] b:^[seq [seq foo] foo]}"},
		{"form", "[seq ^[seq $none $self]]"},
		{"name", "[seq ({map a:^$none}|{map a:$self})]"},
		{"form", "{map a:^(str|str) b:foo}"},
		{"form", "{map a:[seq by k {map k:^(str|str)}] b:foo}"},
		{"form", "{map a:^[seq by k {map k:any}] b:foo}"},
		{"form", "(^[seq by k {map k:any}]|any)"},
		{"form", "{map a:any b:(str|{map *:^(any|int)}) *:foo}"},
	}.hold(t, spell.Defs("self=$self"))
}

// P15.1: what is wrong with definitions.
func TestDefs(t *testing.T) {
	for _, c := range (faults{
		{"", ""},
		{"", "a=str"},
		{"", "-=str 0=int A=bool _=null a=[seq $a] ab=(str|$a) b=$a"},
		{"", a(32) + "=str"},
		// Names that may not be.
		{"form", "=^str"},
		{"form", "a b=^str"},
		{"form", "a=str \xff=^str"},
		{"form", "$=^str"},
		{"form", a(33) + "=^str"},
		{"form", "a=str b.c=^foo"},
		// Names that don't rise.
		{"form", "a=str a=^str"},
		{"form", "b=str a=^str"},
		{"form", "a=str c=str b=^str"},
		{"form", "a=str B=^str"},
		{"form", "a=str b=str a=^str b=str"},
		// The first of both.
		{"form", "b=str a=^str $=str"},
		{"form", "b=str $=^str a=str"},
		{"form", "b=str a=^str a=str"},
		// Ahead of all types.
		{"form", "a=foo b=$none c=$c a=^str"},
		{"form", "a=[foo str] =^str"},
		// Type by type.
		{"form", "a=^foo"},
		{"form", "a=str b=[seq ^foo] c=foo"},
		{"name", "a=str b=^$none c=foo"},
		{"name", "a=^$b b=$none"},
		{"name", "a=str b=(str|^$none) c=foo"},
		{"loop", "a=str b=^$b c=$none"},
		{"loop", "a=^$b b=$c c=$a"},
		{"loop", "a=^$b b=$b"},
		{"loop", "a=^(str|$a)"},
		{"loop", "a=[seq $b] b=^(str|$c) c=(int|$b)"},
		{"form", "a=^(str|$b) b=(str|$c) c=(int|bool)"},
		{"form", "a=^(str|$b) b=(int|any)"},
		{"form", "a=(str|$b) b=(^(int|int)|bool)"},
		{"form", "a=[seq by k $b] b=^{map k:str k:str}"},
		{"form", "a=^[seq by k $b] b={map k:any}"},
		{"", "a=[seq by k $b] b={map k:$c *:$a} c=<str \"x\">"},
	}) {
		s, want := strings.Replace(c.text, "^", "", 1), c.text
		if c.word != "" {
			want = c.word + " at " + c.text
		}
		if got := told(s, spell.Defs(s).Check()); got != want {
			t.Errorf("%s, not %s", got, want)
		}
	}
}

// P15.1: as many types as names.
func TestCounts(t *testing.T) {
	x := typ.Type{Kind: typ.Scalar, At: 7, Tag: "str"}
	for _, names := range [][]string{nil, {"a"}, {"a", "b"}, {"a", "b", "c"}, {"b", "a"}, {"$"}, {"a", "$"}} {
		for n := range 5 {
			d := typ.Defs{Names: names, Types: slices.Repeat([]typ.Type{x}, n)}
			want := api.Fault{}
			if n != len(names) {
				want = api.Fault{Errno: api.ErrForm}
			} else if slices.Contains(names, "$") || !slices.IsSorted(names) {
				want = api.Fault{Errno: api.ErrForm, At: 7}
			}
			if f := d.Check(); f != want {
				t.Errorf("%q, %d: %v at %d, not %v at %d", names, n, f, f.At, want, want.At)
			}
		}
	}
}
