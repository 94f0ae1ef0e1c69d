package schema_test

import (
	"strconv"
	"strings"
	"testing"

	"stanhope/api"
	"stanhope/schema"
	"stanhope/sketch"
	"stanhope/typ"
)

// repeat is a text some times, with commas between.
func repeat(n int, s string) string {
	return strings.TrimSuffix(strings.Repeat(s+",", n), ",")
}

// P24.1: as many parts as there may be, and one more: ErrMany at its node.
func TestMany(t *testing.T) {
	many := func(at int) string { return wrong(api.ErrMany, at) }
	fields := func(n int) string {
		var b strings.Builder
		for i := range n {
			b.WriteString("k" + strconv.Itoa(1000+i) + ": t, ")
		}
		return "{record: {" + b.String() + "}}"
	}
	for _, c := range []struct{ text, want string }{
		{"{union: [" + repeat(399, "t") + "]}", "(" + strings.Repeat("$t|", 398) + "$t)"},
		{"{union: [" + repeat(400, "t") + "]}", many(9 + 399*2)},
		{"{union: [" + repeat(3000, "t") + "]}", many(9 + 399*2)},
		{"{union: [" + repeat(3000, "t") + ",[]]}", many(9 + 399*2)},
		{"{union: [" + repeat(399, "t") + ",[]]}", many(9 + 399*2)},
		{"{union: [" + repeat(398, "t") + ",[]]}", wrong(api.ErrForm, 9+398*2)},
		{"{union: [" + repeat(398, "t") + ",[],t]}", wrong(api.ErrForm, 9+398*2)},
		{"{union: [" + repeat(399, "{list: t}") + "]}", many(9 + 199*10 + 7)},
		{"{union: [{union: [" + repeat(300, "t") + "]}," + repeat(98, "t") + "]}", "((" + strings.Repeat("$t|", 299) + "$t)|" + strings.Repeat("$t|", 97) + "$t)"},
		{"{union: [{union: [" + repeat(300, "t") + "]}," + repeat(99, "t") + "]}", many(18 + 600 + 2 + 98*2)},
		{fields(400), many(10 + 399*10 + 7)},
		// The words of an enum, tags and keys are no parts.
		{"{enum: [" + repeat(2000, "t") + "]}", `<str "t">`},
		{"{union: [" + repeat(199, "{tag: t, by: k, keyed: t}") + "]}", "(" + strings.Repeat("[t by k $t]|", 198) + "[t by k $t])"},
		{"{union: [" + repeat(199, "{tag: t, by: k, keyed: t}") + ",t]}", "(" + strings.Repeat("[t by k $t]|", 199) + "$t)"},
		// What is shared counts as often as it is read.
		{"{union: [&x t" + strings.Repeat(",*x", 398) + "]}", "(" + strings.Repeat("$t|", 398) + "$t)"},
		{"{union: [&x t" + strings.Repeat(",*x", 399) + "]}", many(9)},
		{"{union: [&x {list: t}" + strings.Repeat(",*x", 198) + "]}", "(" + strings.Repeat("[seq $t]|", 198) + "[seq $t])"},
		{"{union: [&x {list: t}" + strings.Repeat(",*x", 199) + "]}", many(19)},
		{"{union: [int, &x {list: t}" + strings.Repeat(",*x", 199) + "]}", many(14)},
		{"{union: [&x {union: [t,t,t]}" + strings.Repeat(",*x", 98) + ",&y u,*y,*y]}", "(" + strings.Repeat("($t|$t|$t)|", 99) + "$u|$u|$u)"},
		{"{union: [&x {union: [t,t,t]}" + strings.Repeat(",*x", 98) + ",&y u,*y,*y,*y]}", many(28 + 98*3 + 1)},
		// What stands within itself has no end.
		{"  &x {list: *x}", many(2)},
		{"{union: [&x {list: {list: *x}}]}", many(19)},
		{"{union: [int, &x {list: {list: *x}}]}", many(14)},
		{"&x {record: {a: int, b: {list: *x}, c: []}}", many(16)},
		{"&x {record: {a: [], b: {list: *x}}}", wrong(api.ErrForm, 16)},
		{"&x {record: {b: [], a: {list: *x}}}", many(0)},
		{"&x {record: {a: str}, rest: *x}", many(0)},
		{"&x {union: [*x, *x]}", many(0)},
		{"&x {keyed: *x, by: k, tag: t}", many(0)},
		{"&x {keyed: t, by: *x}", wrong(api.ErrForm, 0)},
		{"&x {enum: [*x]}", wrong(api.ErrForm, 0)},
		{"{enum: &x [*x]}", wrong(api.ErrForm, 0)},
		{"{union: &x [*x]}", wrong(api.ErrForm, 8)},
		// A mapping that is its own record: its key, record, is its field's, without end.
		{"&x {record: *x}", many(0)},
		{"&x [*x]", wrong(api.ErrForm, 0)},
	} {
		d := doc(t, c.text)
		if got := told(schema.New(d), 0); got != c.want {
			t.Errorf("%.60q: %.100s, not %.100s", c.text, got, c.want)
		}
	}
}

// P24.1: parts are counted through all calls of a reader, whatever they answer, and through no others'.
func TestCount(t *testing.T) {
	d := doc(t, "[t, {list: t}, {a: t, b: {list: t}}, [], {union: [t, [], t]}, {tag: t}]")
	const one, list, defs, none, union, odd = 1, 2, 4, 8, 9, 14
	counts := func(r *schema.Reader, left int) {
		t.Helper()
		for range left {
			if f := r.Part(one); f != (api.Fault{}) {
				t.Fatal(f, f.At)
			}
		}
		for _, n := range []int{one, list, 0} {
			if f := r.Part(n); f != (api.Fault{Errno: api.ErrMany, At: d.At[n]}) {
				t.Error(f, f.At)
			}
		}
		// One that isn't as it should be is told as one too many, too; but definitions that are none are no parts.
		for _, n := range []int{one, list, none, odd, 0} {
			if x, f := r.Type(n); f != (api.Fault{Errno: api.ErrMany, At: d.At[n]}) || x.Kind != 0 {
				t.Error(x, f, f.At)
			}
		}
		if x, f := r.Defs(defs); f != (api.Fault{Errno: api.ErrMany, At: d.At[one+4]}) || len(x.Types) != 0 {
			t.Error(x, f, f.At)
		}
		if x, f := r.Defs(none); f != (api.Fault{Errno: api.ErrForm, At: d.At[none]}) || len(x.Types) != 0 {
			t.Error(x, f, f.At)
		}
		for _, n := range append(sketch.Odd(), len(d.Nodes)) {
			if x, f := r.Type(n); f != (api.Fault{Errno: api.ErrForm}) || x.Kind != 0 {
				t.Error(x, f, f.At)
			}
			if f := r.Part(n); f != (api.Fault{Errno: api.ErrMany}) {
				t.Error(f, f.At)
			}
		}
	}
	counts(schema.New(d), 400)
	for n, parts := range map[int]int{one: 1, list: 2, union: 3} {
		r := schema.New(d)
		for range 400 / parts {
			r.Type(n)
		}
		counts(r, 400%parts)
	}
	r := schema.New(d)
	for range 100 {
		if x, f := r.Type(list); f.Bad() || typ.Show(x) != "[seq $t]" {
			t.Error(x, f)
		}
		if x, f := r.Defs(union + 1); !f.Bad() {
			t.Error(x)
		}
	}
	for range 60 {
		if x, f := r.Defs(defs); f.Bad() || len(x.Types) != 2 {
			t.Error(x, f)
		}
	}
	counts(r, 400-200-180)
	// Definitions that end in one part too many.
	r = schema.New(d)
	for range 398 {
		r.Part(one)
	}
	if x, f := r.Defs(defs); f != (api.Fault{Errno: api.ErrMany, At: d.At[defs+3]}) || len(x.Types) != 0 {
		t.Error(x, f, f.At)
	}
	counts(r, 0)
	// Another reader of the same document counts anew.
	counts(schema.New(d), 400)
}
