package merge_test

import (
	"slices"
	"strings"
	"testing"

	"stanhope/carve"
	"stanhope/merge"
	"stanhope/value"
)

// hold asks that a mapping is what a text says, and that nothing else stands in it.
func hold(t *testing.T, what string, v value.Value, want string) {
	t.Helper()
	if !value.Same(v, of(want)) || !v.May() || v.Text != "" || v.Node != 0 {
		t.Errorf("%s: %+v, not %s", what, v, want)
	}
}

// either are a value as it is, and with something in all that plays no part.
func either(v value.Value) []value.Value { return []value.Value{v, carve.Noisy(v)} }

// P19.3: a mapping laid over another one.
func TestLay(t *testing.T) {
	for _, c := range []struct{ a, b, want string }{
		{"{}", "{}", "{}"},
		{"{a: x}", "{}", "{a: x}"},
		{"{}", "{a: x}", "{a: x}"},
		{"{a: x}", "{a: y}", "{a: y}"},
		{"{a: x}", "{a: ''}", "{a: ''}"},
		{"{a: x}", "{b: y}", "{a: x, b: y}"},
		{"{b: y}", "{a: x}", "{a: x, b: y}"},
		{"{a: x, c: z}", "{b: y}", "{a: x, b: y, c: z}"},
		{"{b: y}", "{a: x, c: z}", "{a: x, b: y, c: z}"},
		{"{a: 1, b: 2, c: 3}", "{b: !leaf 1, c: [4], d: {}}", "{a: 1, b: !leaf 1, c: [4], d: {}}"},
		{"{a: x, b: y}", "{a: x, b: y}", "{a: x, b: y}"},
		{"{k: {a: x, b: y}}", "{k: {a: z, c: z}}", "{k: {a: z, c: z}}"},
		{"{k: [x, y]}", "{k: [z]}", "{k: [z]}"},
		// Keys rise byte by byte.
		{"{é: 1, z: 2, B: 3, '': 4}", "{b: 5, aa: 6, '~': 7, a: 8, Z: 9}", "{'': 4, B: 3, Z: 9, a: 8, aa: 6, b: 5, z: 2, '~': 7, é: 1}"},
		{"{'': x}", "{'': y, a: z}", "{'': y, a: z}"},
		// The Tag is that of what lies below.
		{"!m {a: x}", "{b: y}", "!m {a: x, b: y}"},
		{"{a: x}", "!m {b: y}", "{a: x, b: y}"},
		{"!m {}", "!n {}", "!m {}"},
		{"!m {a: !k x}", "!n {a: !l {}}", "!m {a: !l {}}"},
	} {
		for _, a := range either(of(c.a)) {
			for _, b := range either(of(c.b)) {
				hold(t, c.a+" and "+c.b, merge.Lay(a, b), c.want)
			}
		}
	}
}

// P19.3: a mapping in two.
func TestPart(t *testing.T) {
	none := []string{""}
	for _, c := range []struct {
		v       string
		keys    []string
		in, out string
	}{
		{"{}", nil, "{}", "{}"},
		{"{}", strings.Fields("a b"), "{}", "{}"},
		{"{a: x, b: y}", nil, "{}", "{a: x, b: y}"},
		{"{a: x, b: y}", strings.Fields("a"), "{a: x}", "{b: y}"},
		{"{a: x, b: y}", strings.Fields("b"), "{b: y}", "{a: x}"},
		{"{a: x, b: y}", strings.Fields("a b"), "{a: x, b: y}", "{}"},
		{"{a: x, b: y, c: z, d: []}", strings.Fields("b d"), "{b: y, d: []}", "{a: x, c: z}"},
		// Keys in whatever order, as often as they stand, and such as there aren't.
		{"{a: x, b: y}", strings.Fields("b a"), "{a: x, b: y}", "{}"},
		{"{a: x, b: y, c: z}", strings.Fields("c c a c a"), "{a: x, c: z}", "{b: y}"},
		{"{a: x, b: y}", strings.Fields("c"), "{}", "{a: x, b: y}"},
		{"{a: x, b: y}", strings.Fields("A aa b c x"), "{b: y}", "{a: x}"},
		{"{a: x}", []string{"\xff", "a\x00", strings.Repeat("a", 2000)}, "{}", "{a: x}"},
		{"{a: x}", none, "{}", "{a: x}"},
		{"{'': x, a: y}", none, "{'': x}", "{a: y}"},
		{"{'': x, a: y}", strings.Fields("a"), "{a: y}", "{'': x}"},
		{"{é: 1, z: 2, B: 3, b: 4, aa: 5, a: 6}", strings.Fields("é aa B"), "{B: 3, aa: 5, é: 1}", "{a: 6, b: 4, z: 2}"},
		// Both have the Tag; what stands behind a key stays whole.
		{"!m {a: x, b: y}", strings.Fields("a"), "!m {a: x}", "!m {b: y}"},
		{"!m {a: x}", nil, "!m {}", "!m {a: x}"},
		{"!m {a: x}", strings.Fields("a"), "!m {a: x}", "!m {}"},
		{"{a: {a: 1, b: 2}, b: {a: 3}, c: !leaf 4}", strings.Fields("a c"), "{a: {a: 1, b: 2}, c: !leaf 4}", "{b: {a: 3}}"},
	} {
		for _, v := range either(of(c.v)) {
			what := c.v + " by " + strings.Join(c.keys, " ")
			in, out := merge.Part(v, c.keys)
			hold(t, what, in, c.in)
			hold(t, what, out, c.out)
			// P19.4: the mapping again.
			hold(t, what, merge.Lay(in, out), c.v)
			hold(t, what, merge.Lay(out, in), c.v)
		}
	}
}

// P19.3: a mapping by other keys.
func TestMove(t *testing.T) {
	for _, c := range []struct{ v, from, to, want string }{
		{"{}", "", "", "{}"},
		{"{}", "a b", "b c", "{}"},
		{"{a: x, b: y}", "", "", "{a: x, b: y}"},
		{"{a: x}", "a", "b", "{b: x}"},
		{"{a: x}", "a", "a", "{a: x}"},
		{"{a: x}", "b", "c", "{a: x}"},
		{"{a: x}", "b c a d", "e f g h", "{g: x}"},
		// All are moved at once.
		{"{a: x, b: y}", "a b", "b a", "{a: y, b: x}"},
		{"{a: x, b: y}", "b a", "a b", "{a: y, b: x}"},
		{"{a: x, b: y, c: z}", "a b c", "b c a", "{a: z, b: x, c: y}"},
		{"{a: x, b: y, c: z}", "c b a", "b a c", "{a: y, b: z, c: x}"},
		{"{a: x, b: y, c: z}", "a b c", "b c d", "{b: x, c: y, d: z}"},
		{"{a: x, b: y, c: z}", "c b a", "d c b", "{b: x, c: y, d: z}"},
		{"{b: y, d: z}", "a b c d", "b c d a", "{c: y, a: z}"},
		// Others stay, and all rise.
		{"{a: x, b: y, c: z}", "b", "d", "{a: x, c: z, d: y}"},
		{"{a: x, m: y, z: z}", "a z", "n b", "{b: z, m: y, n: x}"},
		{"{a: 1, b: 2, c: 3, d: 4}", "a b c d", "é Z zz z", "{Z: 2, z: 4, zz: 3, é: 1}"},
		// What stands behind a key stays as it is, and so does the Tag.
		{"!m {a: {a: 1}, b: [a], c: !leaf 4}", "a b c", "c a b", "!m {c: {a: 1}, a: [a], b: !leaf 4}"},
		{"!m {}", "a", "b", "!m {}"},
	} {
		for _, v := range either(of(c.v)) {
			from, to := strings.Fields(c.from), strings.Fields(c.to)
			what := c.v + " from " + c.from + " to " + c.to
			moved := merge.Move(v, from, to)
			hold(t, what, moved, c.want)
			// P19.4: as it was.
			hold(t, what, merge.Move(moved, to, from), c.v)
		}
	}
	v := of("{'': x, a: y}")
	hold(t, "to a", merge.Move(v, []string{"", "a"}, []string{"a", ""}), "{'': y, a: x}")
	hold(t, "to b", merge.Move(v, []string{""}, []string{"b"}), "{a: y, b: x}")
	hold(t, "to none", merge.Move(of("{a: y}"), []string{"a"}, []string{""}), "{'': y}")
}

// P19.3: a mapping of one entry.
func TestEntry(t *testing.T) {
	long := strings.Repeat("é", 512)
	for _, tag := range []string{"map", "!m", ""} {
		for _, key := range []string{"k", "", "a b", "é", long} {
			for _, s := range []string{"x", "~", "[]", "{k: {}}", "!m {k: [1]}", "!leaf 7"} {
				v := merge.Entry(tag, key, of(s))
				if !carve.Equal(v, carve.Tagged(tag, carve.Keyed(key, of(s)))) || tag != "" && !v.May() {
					t.Errorf("%q %q %s: %+v", tag, key, s, v)
				}
				noisy := merge.Entry(tag, key, carve.Noisy(of(s)))
				if !value.Same(v, noisy) || noisy.Text != "" || noisy.Node != 0 {
					t.Errorf("%q %q %s: %+v", tag, key, s, noisy)
				}
			}
		}
	}
}

// P19.3: entries stand together as layers 20 to 22 lay them.
func TestTogether(t *testing.T) {
	v := of("!m {a: x, b: y, c: z}")
	in, out := merge.Part(v, []string{"a", "c"})
	in.Tag = "map"
	sunk := merge.Lay(out, merge.Entry("map", "k", in))
	hold(t, "sunk", sunk, "!m {b: y, k: {a: x, c: z}}")
	below, others := merge.Part(sunk, []string{"k"})
	hold(t, "lifted", merge.Lay(others, below.Kids[0]), "!m {a: x, b: y, c: z}")
	shown, hidden := merge.Part(of("{a: x, b: z}"), []string{"a"})
	hold(t, "shown", shown, "{a: x}")
	hold(t, "put", merge.Lay(hidden, of("{a: y}")), "{a: y, b: z}")
}

// scraps are values that are no mappings, or may not be.
func scraps() []value.Value {
	l := append(carve.Odd(), of("x"), of("[x, y]"), carve.Leaf(-1), carve.Map("a b", carve.Str("x")), carve.Map("b", carve.Str("x"), carve.Str("y")))
	for _, v := range slices.Clone(l) {
		l = append(l, carve.Noisy(v), carve.Keyed("a", v))
	}
	return l
}

// R1, R5, R6: of whatever there is an end, and the same one each time.
func TestScraps(t *testing.T) {
	lists := [][]string{nil, {"a"}, {"a", "a"}, {"b", "a"}, {"a", "b", "c"}, {"", "\xff"}, {"noise", "a", "noise", "b"}}
	for _, v := range scraps() {
		for range 3 {
			for _, from := range lists {
				in, out := merge.Part(v, from)
				x, y := merge.Part(v, from)
				if !carve.Equal(in, x) || !carve.Equal(out, y) || in.Kind != value.Map || out.Kind != value.Map || in.Tag != v.Tag || out.Tag != v.Tag {
					t.Errorf("%+v by %q: %+v, %+v", v, from, in, out)
				}
				// The lists aren't as long as one another, and keys come to be alike.
				for _, to := range lists {
					if x, y := merge.Move(v, from, to), merge.Move(v, from, to); !carve.Equal(x, y) || x.Kind != value.Map || x.Tag != v.Tag {
						t.Errorf("%+v from %q to %q: %+v", v, from, to, x)
					}
				}
			}
		}
		for _, o := range scraps() {
			if x, y := merge.Lay(v, o), merge.Lay(v, o); !carve.Equal(x, y) || x.Kind != value.Map || x.Tag != v.Tag {
				t.Errorf("%+v and %+v: %+v", v, o, x)
			}
		}
		merge.Entry("\xff", "\xff", v)
		// What plays no part is no entry.
		if x := merge.Lay(v, v); v.Kind != value.Map && len(x.Keys)+len(x.Kids) > 0 {
			t.Errorf("%+v: %+v", v, x)
		}
	}
}
