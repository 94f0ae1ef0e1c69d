package spell_test

import (
	"reflect"
	"strings"
	"testing"

	"stanhope/spell"
	"stanhope/typ"
)

// at is a scalar of str at a place.
func at(n int) typ.Type { return typ.Type{Kind: typ.Scalar, At: n, Tag: "str"} }

func TestType(t *testing.T) {
	cases := []struct {
		text string
		want typ.Type
	}{
		{"str", at(0)},
		{"!a-b", typ.Type{Kind: typ.Scalar, Tag: "!a-b"}},
		{"", typ.Type{Kind: typ.Scalar}},
		{"dag", typ.Type{Kind: typ.Dag}},
		{"any", typ.Type{Kind: typ.Any}},
		{"?", typ.Type{}},
		{"$a", typ.Type{Kind: typ.Name, Name: "a"}},
		{"$", typ.Type{Kind: typ.Name}},
		{"<str>", typ.Type{Kind: typ.Enum, Tag: "str"}},
		{`<str "a b" c '>' "\n">`, typ.Type{Kind: typ.Enum, Tag: "str", Words: []string{"a b", "c", ">", "\n"}}},
		{"{map}", typ.Type{Kind: typ.Record, Tag: "map"}},
		{"{map *:str *:str}", typ.Type{Kind: typ.Record, Tag: "map", Items: []typ.Type{at(7), at(13)}}},
		{"{!m b?:str '?:'?:str a:str *:str}", typ.Type{Kind: typ.Record, Tag: "!m", Fields: []typ.Field{
			{Key: "b", Optional: true, Type: at(7)}, {Key: "?:", Optional: true, Type: at(17)}, {Key: "a", Type: at(23)},
		}, Items: []typ.Type{at(29)}}},
		{"[seq str]", typ.Type{Kind: typ.List, Tag: "seq", Items: []typ.Type{at(5)}}},
		{"[seq ]", typ.Type{Kind: typ.List, Tag: "seq"}},
		{"[seq str str]", typ.Type{Kind: typ.List, Tag: "seq", Items: []typ.Type{at(5), at(9)}}},
		{"[seq by k str]", typ.Type{Kind: typ.Keyed, Tag: "seq", Name: "k", Items: []typ.Type{at(10)}}},
		{"[seq by ' ' ]", typ.Type{Kind: typ.Keyed, Tag: "seq", Name: " "}},
		{"()", typ.Type{Kind: typ.Union}},
		{"(str)", typ.Type{Kind: typ.Union, Items: []typ.Type{at(1)}}},
		{"((str|?)|str)", typ.Type{Kind: typ.Union, Items: []typ.Type{
			{Kind: typ.Union, At: 1, Items: []typ.Type{at(2), {At: 6}}}, at(9),
		}}},
	}
	for _, c := range cases {
		if got := spell.Type(c.text); !reflect.DeepEqual(got, c.want) {
			t.Errorf("%q: %+v, not %+v", c.text, got, c.want)
		}
	}
}

func TestDefs(t *testing.T) {
	if got := spell.Defs(""); !reflect.DeepEqual(got, typ.Defs{}) {
		t.Error(got)
	}
	want := typ.Defs{Names: []string{"b", "a c", ""}, Types: []typ.Type{at(2), {Kind: typ.Name, At: 10, Name: "b"}, at(14)}}
	if got := spell.Defs("b=str a c=$b =str"); !reflect.DeepEqual(got, want) {
		t.Errorf("%+v, not %+v", got, want)
	}
}

// wrong says whether a text is none.
func wrong(read func()) (wrong bool) {
	defer func() { wrong = recover() != nil }()
	read()
	return false
}

func TestWrong(t *testing.T) {
	for _, s := range []string{"str ", "str|", "<str", "<str ?>", "{map", "{map a}", "{map a:str", "{map  a:str}", "[seq", "[seq]", "[seq by k]", "(", "(str", "(str|", "(str|)x", "<str 'a>"} {
		if !wrong(func() { spell.Type(s) }) {
			t.Errorf("%q is a type: %+v", s, spell.Type(s))
		}
	}
	for _, s := range []string{"a", "a=str|", "a=str  b"} {
		if !wrong(func() { spell.Defs(s) }) {
			t.Errorf("%q are definitions: %+v", s, spell.Defs(s))
		}
	}
}

// What is noisy is the same, but for what plays no part.
func TestNoisy(t *testing.T) {
	for _, s := range []string{"str", "<str \"a\">", "{map a?:[seq str] *:any}", "[seq by k {map k:str}]", "(str|$a)", "dag"} {
		x := spell.Type(s)
		n := spell.Noisy(x)
		if !typ.Same(x, n) || typ.Show(n) != typ.Show(x) || reflect.DeepEqual(x, n) {
			t.Errorf("%s: %+v", s, n)
		}
	}
	if n := spell.Noisy(at(0)); n.At == 0 || n.Name == "" || len(n.Words) == 0 || len(n.Fields) == 0 || len(n.Items) == 0 {
		t.Errorf("%+v", n)
	}
}

// What is roomy has room behind the ends of its lists, which is to be seen of the whole.
func TestRoom(t *testing.T) {
	x := spell.Roomy(spell.Type("{map a:[seq str]}"))
	if typ.Show(x) != "{map a:[seq str]}" || cap(x.Fields) <= len(x.Fields) {
		t.Errorf("%+v", x)
	}
	was := spell.Whole(x)
	if !reflect.DeepEqual(was, spell.Whole(x)) {
		t.Errorf("%+v", was)
	}
	_ = append(x.Fields[0].Type.Items, at(7))
	if reflect.DeepEqual(was, spell.Whole(x)) {
		t.Errorf("%+v: what is written behind the end isn't seen", was)
	}
}

// What is moved is the same at other places, and anew.
func TestMoved(t *testing.T) {
	const text = "{map a?:[seq str] b:(int|$a) *:[seq by k {map k:<str 'a'>}]}"
	x := spell.Roomy(spell.Type(text))
	was := spell.Whole(x)
	y := spell.Moved(x, 100)
	if typ.Show(y) != typ.Show(x) || y.At != 100 || y.Fields[0].Type.At != 108 || y.Fields[1].Type.Items[1].At != x.Fields[1].Type.Items[1].At+100 || y.Items[0].Items[0].Fields[0].Type.At != 100+strings.Index(text, "<str") {
		t.Errorf("%+v", y)
	}
	if !reflect.DeepEqual(was, spell.Whole(x)) {
		t.Errorf("%+v, not %+v", spell.Whole(x), was)
	}
	plain := spell.Type(text)
	if z := spell.Moved(spell.Moved(plain, 100), -100); !reflect.DeepEqual(z, plain) {
		t.Errorf("%+v, not %+v", z, plain)
	}
}
