package lens_test

import (
	"fmt"
	"reflect"
	"slices"
	"strings"
	"testing"

	"stanhope/api"
	"stanhope/carve"
	"stanhope/grind"
	"stanhope/lens"
	"stanhope/spell"
	"stanhope/value"
)

// roomy are definitions all lists of which have room behind their ends.
func roomy(d lens.Defs) lens.Defs {
	d.Types.Names = spell.Room(d.Types.Names, "behind")
	for i, x := range d.Types.Types {
		d.Types.Types[i] = spell.Roomy(x)
	}
	d.Types.Types = spell.Room(d.Types.Types, spell.Type("any"))
	d.Names = spell.Room(d.Names, "behind")
	for i, x := range d.Lenses {
		d.Lenses[i] = lens.Def{Source: spell.Roomy(x.Source), View: spell.Roomy(x.View), Lens: grind.Roomy(x.Lens)}
	}
	d.Lenses = spell.Room(d.Lenses, lens.Def{Lens: of("{use: none}")})
	return d
}

// whole are definitions anew, with the room behind the ends of their lists.
func whole(d lens.Defs) lens.Defs {
	d.Types.Names = slices.Clone(d.Types.Names[:cap(d.Types.Names)])
	d.Types.Types = slices.Clone(d.Types.Types[:cap(d.Types.Types)])
	for i, x := range d.Types.Types {
		d.Types.Types[i] = spell.Whole(x)
	}
	d.Names = slices.Clone(d.Names[:cap(d.Names)])
	d.Lenses = slices.Clone(d.Lenses[:cap(d.Lenses)])
	for i, x := range d.Lenses {
		d.Lenses[i] = lens.Def{Source: spell.Whole(x.Source), View: spell.Whole(x.View), Lens: grind.Whole(x.Lens)}
	}
	return d
}

// R3: what is handed in stays as it is, with the room behind its end; R5: what is told is the same each time.
func TestHandedIn(t *testing.T) {
	d := grind.Defs("{f: {compose: [id, {on: {b: {use: f}, a: {use: g}}}]}, g: {union: [{project: {keep: [b, a], default: {d: x, c: []}}}, {sink: {into: k, keys: [c, a]}}, {rename: {b: d, a: c}}, {use: h}]}, h: {filter: [c, a]}}")
	d.Types = spell.Defs("t=(str|[seq $t])")
	d.Lenses[0].Source = spell.Type("{map a:str}")
	d = roomy(d)
	was := whole(d)
	var l []lens.Lens
	for _, s := range append(right, wrong...) {
		l = append(l, grind.Roomy(of(s)))
	}
	for _, x := range append(l, d.Lenses[0].Lens, d.Lenses[1].Lens) {
		before := grind.Whole(x)
		first := tell(d, x)
		for range 20 {
			if again := tell(d, x); again != first {
				t.Fatalf("%+v: %s, not %s", x, again, first)
			}
		}
		if now := grind.Whole(x); !reflect.DeepEqual(now, before) {
			t.Errorf("%+v, not %+v", now, before)
		}
	}
	if now := whole(d); !reflect.DeepEqual(now, was) {
		t.Errorf("%+v, not %+v", now, was)
	}
	v := carve.Roomy(carve.Map(""))
	before := carve.Whole(v)
	if !lens.Literal(v) || !carve.Equal(carve.Whole(v), before) {
		t.Errorf("%+v", v)
	}
}

// tell is all that there is to tell of a lens; it writes into what is told.
func tell(d lens.Defs, l lens.Lens) string {
	uses := l.Uses()
	s := fmt.Sprint(l.Check(), l.Check().At, l.Size(), uses, d.Turns(), d.Turns().At)
	for _, key := range asked {
		_, ok := d.Find(key)
		s += fmt.Sprint(d.Keeps(l, key), ok)
	}
	uses = uses[:cap(uses)]
	for i := range uses {
		uses[i] = "written"
	}
	return s
}

// chained are definitions of n names, the lens of each of which uses the next one in a form, and that of the last one is told.
func chained(n int, last string, around func(lens.Lens) lens.Lens) lens.Defs {
	var d lens.Defs
	for i := range n {
		d.Names = append(d.Names, fmt.Sprintf("n%07d", i))
		d.Lenses = append(d.Lenses, lens.Def{Lens: around(lens.Lens{Kind: lens.Use, At: i, Name: fmt.Sprintf("n%07d", i+1)})})
	}
	d.Lenses[n-1].Lens = of(last)
	return d
}

// nested is a lens within others, so many times.
func nested(n int, l lens.Lens, around func(lens.Lens) lens.Lens) lens.Lens {
	for range n {
		l = around(l)
	}
	return l
}

// R1: lenses of any depth are gone through.
func TestDeep(t *testing.T) {
	const n = 1 << 16
	id, use := of("id"), lens.Lens{Kind: lens.Use, At: 5, Name: "f"}
	for _, k := range []lens.Kind{lens.Compose, lens.Map, lens.Items, lens.Keyed, lens.On, lens.Union} {
		around := func(l lens.Lens) lens.Lens {
			x := lens.Lens{Kind: k, Kids: []lens.Lens{l}}
			if k == lens.On {
				x.Keys = []string{"k"}
			}
			if k == lens.Union {
				x.Kids = append(x.Kids, id)
			}
			return x
		}
		l, bad := nested(n, use, around), nested(n, lens.Lens{Kind: lens.Use, At: 5}, around)
		size := n + 1
		if k == lens.Union {
			size += n
		}
		if f := l.Check(); f.Bad() || l.Size() != size || !slices.Equal(l.Uses(), []string{"f"}) {
			t.Error(k, f, f.At, l.Size(), l.Uses())
		}
		if f := bad.Check(); f != form(5) {
			t.Error(k, f, f.At)
		}
		want := api.Fault{}
		if k == lens.Compose || k == lens.Union {
			want = api.Fault{Errno: api.ErrLoop, At: 5}
		}
		d := lens.Defs{Names: []string{"f", "g"}, Lenses: []lens.Def{{Lens: l}, {Lens: nested(n, id, around)}}}
		if f := d.Turns(); f != want {
			t.Error(k, f, f.At)
		}
		if got := d.Keeps(d.Lenses[1].Lens, "x"); got != (want.Bad() || k == lens.On) {
			t.Error(k, got)
		}
		if got := d.Keeps(l, "x"); got != (k == lens.On) {
			t.Error(k, got)
		}
	}
}

// R1: so are wide ones.
func TestWide(t *testing.T) {
	const n = 1 << 17
	id := of("id")
	l := lens.Lens{Kind: lens.Compose, Kids: slices.Repeat([]lens.Lens{id}, n)}
	on := lens.Lens{Kind: lens.On, Kids: l.Kids}
	for i := range n {
		on.Keys = append(on.Keys, fmt.Sprintf("%07d", i))
	}
	rename := lens.Lens{Kind: lens.Rename, Keys: on.Keys, Words: slices.Clone(on.Keys)}
	slices.Reverse(rename.Words)
	project := lens.Lens{Kind: lens.Project, Keys: on.Keys}
	for _, k := range on.Keys {
		project.Drops = append(project.Drops, k+"d")
		project.Values = append(project.Values, value.Value{Kind: value.Seq, Tag: "seq"})
	}
	l.Kids[n-1] = lens.Lens{Kind: lens.Map, Kids: []lens.Lens{{Kind: lens.Use, At: 3, Name: "f"}}}
	d := lens.Defs{Names: []string{"f"}, Lenses: []lens.Def{{Lens: l}}}
	for _, x := range []lens.Lens{l, on, rename, project} {
		if f := x.Check(); f.Bad() || !slices.Equal(x.Keys, on.Keys) && len(x.Keys) > 0 {
			t.Error(x.Kind, f, f.At)
		}
	}
	if f := d.Turns(); f.Bad() || l.Size() != n+2 || d.Keeps(l, "a") || !d.Keeps(on, "a") {
		t.Error(f, f.At, l.Size())
	}
	l.Kids[n/2] = of("copy")
	if f := d.Turns(); f != (api.Fault{Errno: api.ErrLoop, At: 3}) {
		t.Error(f, f.At)
	}
	rename.Words[n-1] = rename.Words[n/2]
	project.Drops[n-1] = project.Keys[n-1]
	for _, x := range []lens.Lens{rename, project} {
		if f := x.Check(); f != form(0) {
			t.Error(x.Kind, f, f.At)
		}
	}
}

// R1: long chains of definitions, and rings of them.
func TestChains(t *testing.T) {
	for _, n := range []int{1, 2, 3, 400, 1 << 16} {
		first := lens.Lens{Kind: lens.Use, Name: "n0000000"}
		for last, e := range map[string]api.Errno{"{lift: a}": api.OK, "{use: none}": api.ErrName, "{use: n0000000}": api.ErrLoop, "{map: {use: n0000000}}": api.ErrLoop} {
			want := api.Fault{Errno: e}
			if n == 1 && strings.HasPrefix(last, "{map") {
				want = api.Fault{}
			}
			d := chained(n, last, func(l lens.Lens) lens.Lens { return l })
			if f := d.Turns(); f != want {
				t.Errorf("%d, %s: %v at %d", n, last, f, f.At)
			}
			if d.Keeps(first, "b") != (last == "{lift: a}") || d.Keeps(first, "a") {
				t.Errorf("%d, %s: keeps", n, last)
			}
		}
		low := func(l lens.Lens) lens.Lens { return lens.Lens{Kind: lens.Items, Kids: []lens.Lens{l}} }
		if f := chained(n, "{map: {use: n0000000}}", low).Turns(); f.Bad() {
			t.Errorf("%d: %v at %d", n, f, f.At)
		}
	}
}

// R1: what leads to one name in many ways is gone through once.
func TestWays(t *testing.T) {
	const n = 400
	for _, k := range []lens.Kind{lens.Compose, lens.Union} {
		d := chained(n, "{lift: a}", func(l lens.Lens) lens.Lens { return lens.Lens{Kind: k, Kids: []lens.Lens{l, l, l}} })
		first := lens.Lens{Kind: lens.Use, Name: d.Names[0]}
		if f := d.Turns(); f.Bad() || !d.Keeps(first, "b") || d.Keeps(first, "a") {
			t.Error(k, f, f.At)
		}
		d.Lenses[n-1].Lens = first
		if f := d.Turns(); f != (api.Fault{Errno: api.ErrLoop}) || d.Keeps(first, "b") {
			t.Error(k, f, f.At)
		}
	}
	// Each uses all.
	var all lens.Defs
	l := lens.Lens{Kind: lens.Union}
	for i := range n {
		all.Names = append(all.Names, fmt.Sprintf("n%03d", i))
		l.Kids = append(l.Kids, lens.Lens{Kind: lens.Map, Kids: []lens.Lens{{Kind: lens.Use, At: i, Name: all.Names[i]}}})
	}
	all.Lenses = slices.Repeat([]lens.Def{{Lens: l}}, n)
	if f := all.Turns(); f.Bad() {
		t.Error(f, f.At)
	}
	all.Lenses[n-1].Lens = lens.Lens{Kind: lens.Compose, Kids: []lens.Lens{{Kind: lens.Use, At: -5, Name: "n000"}}}
	if f := all.Turns(); f != (api.Fault{Errno: api.ErrLoop, At: -5}) {
		t.Error(f, f.At)
	}
}
