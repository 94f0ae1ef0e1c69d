package typ_test

import (
	"reflect"
	"slices"
	"testing"

	"stanhope/api"
	"stanhope/spell"
	"stanhope/typ"
)

// R3: what is handed in stays as it is, with the room behind its end; R5: what is told is the same each time.
func TestHandedIn(t *testing.T) {
	d := spell.Defs("c={map k:str l?:$a} a=(str|$b) b=[seq $a]")
	d.Names = spell.Room(d.Names, "behind")
	for i := range d.Types {
		d.Types[i] = spell.Roomy(d.Types[i])
	}
	d.Types = spell.Room(d.Types, spell.Roomy(spell.Type("(foo|bar)")))
	was := typ.Defs{Names: slices.Clone(d.Names[:cap(d.Names)])}
	for _, x := range d.Types[:cap(d.Types)] {
		was.Types = append(was.Types, spell.Whole(x))
	}
	for _, s := range []string{"$a", "[seq by k $c]", "({map z:str b:$none a:int}|$b|$a)", "{map a:($a|str|bool) b:<str \"b\" \"a\">}", "($b|$a|int)"} {
		x := spell.Roomy(spell.Type(s))
		before := spell.Whole(x)
		for range 20 {
			tell(d, x)
		}
		if now := spell.Whole(x); !reflect.DeepEqual(now, before) {
			t.Errorf("%s: %+v, not %+v", s, now, before)
		}
	}
	for i, x := range d.Types[:cap(d.Types)] {
		if !reflect.DeepEqual(spell.Whole(x), was.Types[i]) {
			t.Errorf("%+v, not %+v", x, was.Types[i])
		}
	}
	if now := d.Names[:cap(d.Names)]; !slices.Equal(now, was.Names) {
		t.Errorf("%q, not %q", now, was.Names)
	}
}

// tell asks for all that there is to tell of a type, and writes into the heads that are told.
func tell(d typ.Defs, x typ.Type) {
	d.Check()
	typ.Check(d, x)
	typ.Resolve(d, x)
	typ.Same(x, x)
	typ.Show(x)
	l, _ := typ.Heads(d, x)
	l = l[:cap(l)]
	for i := range l {
		l[i] = "written"
	}
}

// R3, R5: what is written into heads is of no account to those that are told later.
func TestHandedOut(t *testing.T) {
	d := spell.Defs("a=(str|$b) b=[seq $a]")
	x := spell.Type("($a|int)")
	for range 20 {
		if l, ok := typ.Heads(d, x); !ok || !slices.Equal(l, []string{".int", ".str", "[seq"}) {
			t.Fatal(l, ok)
		}
		tell(d, x)
	}
}

// nested is a type within itself, so many times.
func nested(n int, x typ.Type, around func(typ.Type) typ.Type) typ.Type {
	for range n {
		x = around(x)
	}
	return x
}

// list is a list of a type.
func list(x typ.Type) typ.Type {
	return typ.Type{Kind: typ.List, Tag: "seq", Items: []typ.Type{x}}
}

// R1: types of any depth are gone through.
func TestDeep(t *testing.T) {
	const n = 1 << 18
	str, foo := spell.Type("str"), typ.Type{Kind: typ.Scalar, At: 5, Tag: "foo"}
	shapes := []struct {
		around func(typ.Type) typ.Type
		bytes  int
	}{
		{list, len("[seq ]")},
		{func(x typ.Type) typ.Type {
			return typ.Type{Kind: typ.Record, Tag: "map", Fields: []typ.Field{{Key: "k", Type: x}}}
		}, len("{map k:}")},
		{func(x typ.Type) typ.Type {
			return typ.Type{Kind: typ.Record, Tag: "map", Items: []typ.Type{x}}
		}, len("{map *:}")},
	}
	for i, s := range shapes {
		x, y := nested(n, str, s.around), nested(n, foo, s.around)
		if f := typ.Check(typ.Defs{}, x); f.Bad() {
			t.Error(i, f, f.At)
		}
		if f := typ.Check(typ.Defs{}, y); f != (api.Fault{Errno: api.ErrForm, At: 5}) {
			t.Error(i, f, f.At)
		}
		if !typ.Same(x, x) || typ.Same(x, y) || typ.Same(y, x) {
			t.Error(i, "same")
		}
		if l := len(typ.Show(x)); l != n*s.bytes+3 {
			t.Error(i, l)
		}
	}
	u := nested(n, str, func(x typ.Type) typ.Type { return typ.Type{Kind: typ.Union, Items: []typ.Type{x, foo}} })
	if l, ok := typ.Heads(typ.Defs{}, u); !ok || !slices.Equal(l, []string{".foo", ".str"}) {
		t.Error(l, ok)
	}
	if !typ.Same(u, u) || len(typ.Show(u)) != n*len("(|foo)")+3 {
		t.Error("union")
	}
}

// R1: what leads to one name in many ways is gone through once.
func TestWays(t *testing.T) {
	const n = 400
	str := spell.Type("str")
	for _, last := range []typ.Type{str, {Kind: typ.Any}, {Kind: typ.Name, Name: "none"}} {
		d := chained(n, last)
		for i := range n - 1 {
			next := d.Types[i]
			d.Types[i] = typ.Type{Kind: typ.Union, At: i, Items: []typ.Type{next, next, next}}
		}
		first := typ.Type{Kind: typ.Name, Name: d.Names[0]}
		l, ok := typ.Heads(d, first)
		if ok != (last.Kind == typ.Scalar) || ok && !slices.Equal(l, []string{".str"}) {
			t.Error(l, ok)
		}
		x := typ.Type{Kind: typ.Union, At: -1, Items: []typ.Type{first, spell.Type("int")}}
		want := api.Fault{Errno: api.ErrForm, At: -1}
		if last.Kind == typ.Scalar {
			want = api.Fault{}
		}
		if f := typ.Check(d, x); f != want {
			t.Error(f, f.At)
		}
		d.Types[n-1] = first
		if f := typ.Check(d, x); f != (api.Fault{Errno: api.ErrLoop, At: -1}) {
			t.Error(f, f.At)
		}
	}
	if f := chained(n, str).Check(); f.Bad() {
		t.Error(f, f.At)
	}
	if f := chained(n, typ.Type{Kind: typ.Name, At: n - 1, Name: "none"}).Check(); f != (api.Fault{Errno: api.ErrName}) {
		t.Error(f, f.At)
	}
}
