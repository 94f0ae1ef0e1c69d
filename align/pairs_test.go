package align_test

import (
	"slices"
	"strconv"
	"strings"
	"testing"

	"stanhope/align"
	"stanhope/carve"
	"stanhope/spell"
	"stanhope/typ"
	"stanhope/value"
)

// of is the value of a text.
var of = carve.Value

// defs are definitions, noisy the same with something in all that plays no part.
var defs, noisy = spell.Defs(names), quiet(spell.Defs(names))

// names are types for which names stand in what is asked.
const names = "a=any d=dag far=$near k=[seq by k {map k:str v?:any w?:any}] l=[seq any] near=$k t=(str|[seq $t]|{!a x:any}) u=([seq any]|{map *:any}|int)"

// quiet are definitions with something in all that plays no part.
func quiet(d typ.Defs) typ.Defs {
	for i, x := range d.Types {
		d.Types[i] = spell.Noisy(x)
	}
	return d
}

// list are the pairs of a text: a number, a colon and a number, with blanks between them.
func list(s string) [][2]int {
	var l [][2]int
	for _, f := range strings.Fields(s) {
		v, w, _ := strings.Cut(f, ":")
		x, err := strconv.Atoi(v)
		y, other := strconv.Atoi(w)
		if err != nil || other != nil {
			panic("pairs: " + s)
		}
		l = append(l, [2]int{x, y})
	}
	return l
}

// rows are texts, each of a type, of two values, as leaves reads them, and of their pairs.
type rows []struct{ of, v, w, pairs string }

// leaves is the value of a text in which a number behind a ^ is a leaf's.
func leaves(s string) value.Value { return of(strings.ReplaceAll(s, "^", "!leaf ")) }

// hold holds what is told of each row, with what plays no part, too.
func (l rows) hold(t *testing.T) {
	t.Helper()
	for _, r := range l {
		x, v, w, want := spell.Type(r.of), leaves(r.v), leaves(r.w), list(r.pairs)
		if f := typ.Check(defs, x); f.Bad() || !value.Of(defs, x, v) || !value.Of(defs, x, w) {
			t.Fatalf("%+v is wrong", r)
		}
		if got := align.Pairs(defs, x, v, w); !slices.Equal(got, want) {
			t.Errorf("%+v: %v", r, got)
		}
		if got := align.Pairs(noisy, spell.Noisy(x), carve.Noisy(v), carve.Noisy(w)); !slices.Equal(got, want) {
			t.Errorf("%+v, with what plays no part: %v", r, got)
		}
	}
}

// P23.1: the places of both as a whole.
func TestWhole(t *testing.T) {
	rows{
		{"any", "^1", "^2", "1:2"},
		{"dag", "^0", "^0", "0:0"},
		{"$a", "^7", "^3", "7:3"},
		{"$d", "^4095", "^0", "4095:0"},
		{"str", "x", "x", ""},
		{"str", "x", "y", ""},
		{"<str \"x\">", "x", "x", ""},
		{"[seq any]", "[]", "[]", ""},
		{"{map}", "{}", "{}", ""},
	}.hold(t)
}

// P23.1: of two mappings what stands behind keys that both have.
func TestEntries(t *testing.T) {
	rows{
		{"{map a:any b:any}", "{a: ^1, b: ^2}", "{a: ^3, b: ^4}", "1:3 2:4"},
		{"{map a:any b:dag}", "{a: ^1, b: ^1}", "{a: ^3, b: ^4}", "1:3 1:4"},
		{"{map a?:any b?:any c?:any}", "{a: ^1, b: ^2}", "{b: ^3, c: ^4}", "2:3"},
		{"{map a?:any b?:any c?:any}", "{b: ^2, c: ^3}", "{a: ^4, b: ^5, c: ^6}", "2:5 3:6"},
		{"{map a?:any b?:any}", "{}", "{a: ^1, b: ^2}", ""},
		{"{map a?:any b?:any}", "{a: ^1, b: ^2}", "{}", ""},
		{"{map *:any}", "{a: ^1, c: ^2, e: ^3}", "{b: ^4, c: ^5, d: ^6, e: ^7, f: ^8}", "2:5 3:7"},
		{"{map b:str *:any}", "{a: ^1, b: x, c: ^2}", "{a: ^4, b: y, c: ^5}", "1:4 2:5"},
		{"{!m a:any *:str}", "!m {a: ^1, b: x}", "!m {a: ^2, c: x}", "1:2"},
		// What is behind is of the Field's type, or of the rest's.
		{"{map a:$k *:[seq any]}", "{a: [{k: x, v: ^1}, {k: y, v: ^2}], b: [^3, ^4]}", "{a: [{k: y, v: ^5}, {k: x, v: ^6}], b: [^7, ^8]}", "2:5 1:6 3:7 4:8"},
		{"{map b:[seq any] *:$k}", "{a: [{k: x, v: ^1}, {k: y, v: ^2}], b: [^3, ^4]}", "{a: [{k: y, v: ^5}, {k: x, v: ^6}], b: [^7, ^8]}", "2:5 1:6 3:7 4:8"},
		// Keys rise byte by byte, and are what they are.
		{"{map *:any}", "{'': ^1, A: ^2, a: ^3, é: ^4}", "{'': ^5, A: ^6, a: ^7, é: ^8}", "1:5 2:6 3:7 4:8"},
		{"{map *:any}", "{a: ^1, 'a ': ^2}", "{A: ^3, aa: ^4}", ""},
		// Of mappings within mappings.
		{"{map a:{map b:any} b:any}", "{a: {b: ^1}, b: ^2}", "{a: {b: ^3}, b: ^4}", "1:3 2:4"},
		{"{map a?:{map b?:any} b?:{map b?:any}}", "{a: {b: ^1}}", "{b: {b: ^2}}", ""},
		{"{map a?:{map b?:any} b?:{map b?:any}}", "{a: {b: ^1}, b: {}}", "{a: {b: ^3}, b: {b: ^2}}", "1:3"},
	}.hold(t)
}

// P23.1: of two sequences, of a List, those of the same number.
func TestItems(t *testing.T) {
	rows{
		{"[seq any]", "[^1, ^2]", "[^5, ^6, ^7]", "1:5 2:6"},
		{"[seq any]", "[^1, ^2, ^3]", "[^5]", "1:5"},
		{"[!l dag]", "!l [^1]", "!l [^5]", "1:5"},
		{"$l", "[]", "[^5]", ""},
		{"$l", "[^5]", "[]", ""},
		{"[seq [seq any]]", "[[^1, ^2], [], [^3]]", "[[^5], [^6], [^7, ^8]]", "1:5 3:7"},
		{"[seq {map k:str v?:any}]", "[{k: x, v: ^1}, {k: y, v: ^2}, {k: z}]", "[{k: y, v: ^3}, {k: x}, {k: z, v: ^4}]", "1:3"},
	}.hold(t)
}

// P23.1: of a Keyed, each item of w and the one of v whose key is alike.
func TestKeyed(t *testing.T) {
	rows{
		{"$k", "[{k: x, v: ^1}, {k: y, v: ^2}]", "[{k: y, v: ^3}, {k: x, v: ^4}]", "2:3 1:4"},
		{"$far", "[{k: x, v: ^1}, {k: y, v: ^2}]", "[{k: y, v: ^3}, {k: x, v: ^4}]", "2:3 1:4"},
		{"$k", "[{k: x, v: ^1}]", "[{k: y, v: ^3}, {k: '', v: ^5}]", ""},
		{"$k", "[{k: x, v: ^1}, {k: y, v: ^2}, {k: z}]", "[{k: z, v: ^3}, {k: w, v: ^4}, {k: y, v: ^5, w: ^6}]", "2:5"},
		{"$k", "[{k: x, v: ^1, w: ^2}, {k: y, v: ^3}]", "[{k: '', v: ^4}, {k: y, v: ^5, w: ^6}, {k: x, v: ^7, w: ^8}]", "3:5 1:7 2:8"},
		{"[seq by v {map k:str v:int w:any}]", "[{k: x, v: 1, w: ^1}, {k: y, v: 2, w: ^2}]", "[{k: x, v: 2, w: ^3}, {k: y, v: 3, w: ^4}]", "2:3"},
		{"[!l by '' {!m '':<!e \"a\" \"b\"> *:any}]", "!l [!m {'': !e a, x: ^1}, !m {'': !e b, x: ^2}]", "!l [!m {'': !e b, x: ^3}]", "2:3"},
		{"[seq by k {map k:str l:$l m:$k}]", "[{k: x, l: [^1, ^2], m: [{k: a, v: ^3}]}, {k: y, l: [^4], m: []}]", "[{k: y, l: [^5, ^6], m: [{k: a, v: ^7}]}, {k: x, l: [^8], m: [{k: b, v: ^9}, {k: a, v: ^10}]}]", "4:5 1:8 3:10"},
	}.hold(t)
}

// P23.1: of a Union w's Item tells of which kind both are.
func TestUnion(t *testing.T) {
	const sorts = "([!a any]|[!b {map k:str v:any}]|[!c by k {map k:str v:any}]|{!d k:str v:any}|{!e *:any}|{!f k:$l v:[seq by k {map k:str v:any}]}|str)"
	rows{
		{"$u", "[^1, ^2]", "[^3]", "1:3"},
		{"$u", "{a: ^1}", "{a: ^3, b: ^2}", "1:3"},
		{"$u", "1", "1", ""},
		{"$u", "[^1]", "{a: ^2}", ""},
		{"$u", "{a: ^2}", "[^1]", ""},
		{"$u", "1", "[^1]", ""},
		{"$u", "{a: ^1}", "1", ""},
		{"$t", "[x, [!a {x: ^1}, []], !a {x: ^2}]", "[[], [!a {x: ^3}], !a {x: ^4}, !a {x: ^5}]", "1:3 2:4"},
		{"$t", "[!a {x: ^1}]", "[[!a {x: ^2}]]", ""},
		{"((str|[!a any])|(int|([!b any]|$k)))", "!a [^1]", "!b [^2]", "1:2"},
		{"((str|[!a any])|(int|([!b any]|$k)))", "[{k: y, v: ^3}, {k: x, v: ^1}]", "[{k: x, v: ^2}]", "1:2"},
		// Sequences of different Items.
		{sorts, "!b [{k: x, v: ^1}, {k: y, v: ^2}]", "!c [{k: y, v: ^3}, {k: z, v: ^4}, {k: x, v: ^5}]", "2:3 1:5"},
		{sorts, "!b [{k: x, v: ^1}, {k: x, v: ^2}, {k: y, v: ^6}]", "!c [{k: y, v: ^3}, {k: x, v: ^4}]", "6:3 1:4"},
		{sorts, "!c [{k: y, v: ^3}, {k: z, v: ^4}, {k: x, v: ^5}]", "!b [{k: x, v: ^1}, {k: y, v: ^2}]", "3:1 4:2"},
		{sorts, "!a [^1, ^2]", "!c [{k: y, v: ^3}]", ""},
		{sorts, "!a [^1, ^2]", "!b [{k: y, v: ^3}]", ""},
		{sorts, "!c [{k: y, v: ^3}]", "!a [^1, ^2]", ""},
		// Mappings of different Items.
		{sorts, "!d {k: x, v: ^1}", "!e {k: ^2, v: ^3}", "1:3"},
		{sorts, "!e {k: ^2, v: ^3}", "!d {k: x, v: ^1}", "3:1"},
		{sorts, "!f {k: [^1], v: [{k: y, v: ^2}]}", "!e {k: ^2, v: ^3}", ""},
		{"({!a x:[seq any]}|{!b x:$k}|{!c x:[seq {map k:str v?:any}]})", "!b {x: [{k: y, v: ^1}, {k: x, v: ^2}]}", "!c {x: [{k: x, v: ^3}, {k: z, v: ^4}]}", "1:3 2:4"},
		{"({!a x:[seq any]}|{!b x:$k}|{!c x:[seq {map k:str v?:any}]})", "!c {x: [{k: x, v: ^3}, {k: z, v: ^4}, {k: x, v: ^5}]}", "!b {x: [{k: y, v: ^1}, {k: x, v: ^2}]}", "3:2"},
		{"({!a x:[seq any]}|{!b x:$k}|{!c x:[seq {map k:str v?:any}]})", "!a {x: [^1]}", "!b {x: [{k: y, v: ^1}, {k: x, v: ^2}]}", ""},
		{"({!a x:[seq any]}|{!b x:$k}|{!c x:[seq {map k:str v?:any}]})", "!b {x: [{k: y, v: ^1}, {k: x, v: ^2}]}", "!a {x: [^1]}", ""},
	}.hold(t)
}

// P23.1: each pair once, in the order of going through w.
func TestOnce(t *testing.T) {
	rows{
		{"[seq any]", "[^1, ^1, ^1]", "[^5, ^5, ^5]", "1:5"},
		{"[seq any]", "[^1, ^2, ^1, ^2]", "[^5, ^5, ^6, ^5]", "1:5 2:5 1:6"},
		{"[seq any]", "[^2, ^1, ^2, ^1]", "[^6, ^5, ^6, ^5]", "2:6 1:5"},
		{"[seq any]", "[^1, ^5]", "[^5, ^1]", "1:5 5:1"},
		{"{map a:any b:[seq any] c:$k}", "{a: ^1, b: [^2, ^1], c: [{k: x, v: ^1}, {k: y, v: ^2}]}", "{a: ^3, b: [^3, ^3], c: [{k: y, v: ^3}, {k: x, v: ^4}]}", "1:3 2:3 1:4"},
		{"[seq {map a:any b:any}]", "[{a: ^9, b: ^8}, {a: ^7, b: ^6}]", "[{a: ^1, b: ^2}, {a: ^3, b: ^4}]", "9:1 8:2 7:3 6:4"},
		{"{map a:[seq [seq any]] b:any}", "{a: [[^1, ^2], [^3]], b: ^4}", "{a: [[^5, ^6], [^7]], b: ^8}", "1:5 2:6 3:7 4:8"},
	}.hold(t)
}

// P23.1: a leaf may have any number.
func TestNumbers(t *testing.T) {
	odd := []int{-1 << 63, -1, 0, 4095, 1<<63 - 1}
	x := spell.Type("[seq any]")
	var v, w []value.Value
	var want [][2]int
	for _, n := range odd {
		for _, m := range odd {
			v, w = append(v, carve.Leaf(n)), append(w, carve.Leaf(m))
			want = append(want, [2]int{n, m})
		}
	}
	if got := align.Pairs(typ.Defs{}, x, carve.Seq(v...), carve.Seq(w...)); !slices.Equal(got, want) {
		t.Error(got)
	}
}

// P23.1: what names stand for is told by the definitions.
func TestDefs(t *testing.T) {
	v, w := leaves("[{k: x, v: ^1}, {k: y, v: ^2}]"), leaves("[{k: y, v: ^3}, {k: x, v: ^4}]")
	for _, c := range []struct{ defs, pairs string }{
		{"k=[seq by k {map k:str v:any}]", "2:3 1:4"},
		{"k=[seq {map k:str v:any}]", "1:3 2:4"},
		{"k=$l l=([seq by k {map k:str *:any}]|str)", "2:3 1:4"},
		{"k=(str|$l) l=$m m=[seq $n] n=({map k:str v:$o}|int) o=dag", "1:3 2:4"},
	} {
		d := spell.Defs(c.defs)
		if f := d.Check(); f.Bad() || !value.Of(d, spell.Type("$k"), v) {
			t.Fatal(c.defs)
		}
		if got := align.Pairs(d, spell.Type("$k"), v, w); !slices.Equal(got, list(c.pairs)) {
			t.Errorf("%s: %v", c.defs, got)
		}
	}
}

// R1: values of any depth and width are gone through.
func TestFar(t *testing.T) {
	const n = 1 << 18
	d := spell.Defs("a=([seq $a]|{map a?:$a b:any}|[!k by k {map k:str v:$a}]|{!l x:any})")
	for i, around := range []func(value.Value) value.Value{
		func(v value.Value) value.Value { return carve.Seq(v) },
		func(v value.Value) value.Value { return carve.Map("a b", v, carve.Leaf(3)) },
		func(v value.Value) value.Value {
			return carve.Tagged("!k", carve.Seq(carve.Map("k v", carve.Str("x"), v)))
		},
	} {
		v := carve.Nested(n, leaves("!l {x: ^1}"), around)
		w := carve.Nested(n, leaves("!l {x: ^2}"), around)
		want := list([]string{"1:2", "1:2 3:3", "1:2"}[i])
		if got := align.Pairs(d, spell.Type("$a"), v, w); !slices.Equal(got, want) {
			t.Error(i, got)
		}
		if got := align.Pairs(d, spell.Type("$a"), v, w.Kids[0]); len(got) > 1 {
			t.Error(i, got)
		}
	}
	var items, others, keyed, turned, kids []value.Value
	var keys []string
	for i := range 1 << 16 {
		key := "k" + strconv.Itoa(1<<20+i)
		items, others = append(items, carve.Leaf(i)), append(others, carve.Leaf(-i))
		keyed = append(keyed, carve.Map("k v", carve.Str(key), carve.Leaf(i)))
		turned = append(turned, carve.Map("k v", carve.Str(key), carve.Leaf(-i)))
		keys, kids = append(keys, key), append(kids, carve.Leaf(i))
	}
	slices.Reverse(turned)
	v, w := value.Value{Kind: value.Map, Tag: "map", Keys: keys, Kids: kids}, value.Value{Kind: value.Map, Tag: "map", Keys: keys[1:], Kids: others[1:]}
	for i, got := range [][][2]int{
		align.Pairs(typ.Defs{}, spell.Type("[seq any]"), carve.Seq(items...), carve.Seq(others...)),
		align.Pairs(typ.Defs{}, spell.Type("[seq by k {map k:str v:any}]"), carve.Seq(keyed...), carve.Seq(turned...)),
		align.Pairs(typ.Defs{}, spell.Type("{map *:any}"), v, w),
	} {
		if len(got) != len(items)-i/2 {
			t.Fatal(i, len(got))
		}
		for j, p := range got {
			if want := []int{j, len(items) - 1 - j, j + 1}[i]; p != [2]int{want, -want} {
				t.Fatal(i, j, p)
			}
		}
	}
}

// wild are types that may not be, and definitions of which some lead to one another without end.
func wild() (typ.Defs, []typ.Type) {
	d := spell.Defs("a=$b b=$a c=(str|$c) d=(str|$e) e=($d|[seq any]) l=[seq any]")
	d.Types = d.Types[:5]
	var l []typ.Type
	for _, s := range []string{"?", "$a", "$c", "$d", "$l", "$z", "()", "($a|$c)", "([seq any]|[seq by k any])", "(any|[seq any])", "[seq ]", "[seq by k ]", "[seq by k str]", "[seq any str]", "{map a:$a *:$c}", "{map b:any a:any}", "{map a:any a:str}", "[seq $a]", "[seq $c]", "{map *:?}"} {
		l = append(l, spell.Type(s))
	}
	return d, l
}

// R1, R6: whatever is handed in there is an end.
func TestWild(t *testing.T) {
	d, types := wild()
	values := append(carve.Odd(), carve.Leaf(-1))
	for _, s := range []string{"x", "[]", "{}", "[^1, x, ^2]", "{a: ^1, b: [^2], k: x}", "[{k: x, v: ^1}, {k: x, v: ^2}]", "[[^1], {k: ^1}]"} {
		values = append(values, leaves(s), carve.Noisy(leaves(s)))
	}
	lacks := leaves("{a: ^1, b: ^2}")
	lacks.Keys = lacks.Keys[:1]
	turned := leaves("{a: ^1, b: ^2}")
	slices.Reverse(turned.Keys)
	more := leaves("{a: ^1, b: ^2}")
	more.Kids = more.Kids[:1]
	values = append(values, lacks, turned, more)
	for _, v := range slices.Clone(values) {
		values = append(values, carve.Seq(v, carve.Leaf(3), v), carve.Map("a k", v, v))
	}
	for _, x := range types {
		for _, v := range values {
			for _, w := range values {
				align.Pairs(d, x, v, w)
				align.Pairs(typ.Defs{}, x, v, w)
			}
		}
	}
}
