package merge_test

import (
	"fmt"
	"slices"
	"testing"

	"stanhope/carve"
	"stanhope/merge"
	"stanhope/spell"
	"stanhope/value"
)

// R3: a source and a view stay as they are, with the room behind their ends, whatever is written into what is handed out.
func TestSpliceHandedIn(t *testing.T) {
	for _, c := range []struct{ source, view string }{{"", ""}, {"1 3", ""}, {"2 4", ""}, {"", "6 8"}, {"2 4", "6 8"}, {"1 2 3 4", "6 8 10"}, {"1 2 3 4 5", "6"}, {"1", "6"}} {
		source, view := spell.Room(list(c.source), 77), spell.Room(list(c.view), 78)
		behind, beyond := slices.Clone(source[:cap(source)]), slices.Clone(view[:cap(view)])
		want := merge.Splice(list(c.source), even, list(c.view))
		for range 5 {
			l := merge.Splice(source, even, view)
			if !slices.Equal(l, want) {
				t.Errorf("%s by %s: %v, not %v", c.source, c.view, l, want)
			}
			for i := range l[:cap(l)] {
				l[:cap(l)][i] = -1
			}
			if !slices.Equal(source[:cap(source)], behind) || !slices.Equal(view[:cap(view)], beyond) {
				t.Fatalf("%s by %s: %v, %v", c.source, c.view, source[:cap(source)], view[:cap(view)])
			}
		}
		// Nor is what was handed out theirs.
		l := merge.Splice(source, even, view)
		for i := range source {
			source[i] = -1
		}
		for i := range view {
			view[i] = -1
		}
		if !slices.Equal(l, want) {
			t.Errorf("%s by %s: %v, not %v", c.source, c.view, l, want)
		}
	}
	// One list may be both.
	both := []int{2, 1, 4, 3, 6}
	for i := range both {
		for j := range both[i:] {
			l := merge.Splice(both, even, both[i:i+j])
			if want := merge.Splice(slices.Clone(both), even, slices.Clone(both[i:i+j])); !slices.Equal(l, want) || !slices.Equal(both, list("2 1 4 3 6")) {
				t.Error(i, j, l, want, both)
			}
		}
	}
}

// R3: old items and new ones stay as they are; so does what was told of them.
func TestPairHandedIn(t *testing.T) {
	for _, c := range pairs {
		old, now := carve.Roomy(of(c.old)), carve.Roomy(of(c.now))
		was, is := carve.Whole(old), carve.Whole(now)
		for range 5 {
			l, kept := merge.Pair(old.Kids, now.Kids, c.key), merge.Pair(old.Kids, now.Kids, c.key)
			l = l[:cap(l)]
			for i := range l {
				l[i] = 77
			}
			if !slices.Equal(kept, list(c.want)) {
				t.Errorf("%s and %s: %v", c.old, c.now, kept)
			}
		}
		if !carve.Equal(carve.Whole(old), was) || !carve.Equal(carve.Whole(now), is) {
			t.Errorf("%s and %s: %+v, %+v", c.old, c.now, old, now)
		}
	}
}

// R3, R5: mappings and lists of keys stay as they are; so does what was made of them, which is the same each time.
func TestEntriesHandedIn(t *testing.T) {
	a, b := carve.Roomy(of("{a: [x], c: {d: y}, e: !leaf 1}")), carve.Roomy(of("!m {b: z, c: ~}"))
	from, to := spell.Room([]string{"e", "a"}, "behind"), spell.Room([]string{"a", "f"}, "behind")
	was, is := carve.Whole(a), carve.Whole(b)
	all := func() []value.Value {
		in, out := merge.Part(a, from)
		return []value.Value{merge.Lay(a, b), merge.Lay(b, a), in, out, merge.Lay(in, out), merge.Move(a, from, to), merge.Entry("map", "k", a)}
	}
	first := all()
	kept := make([]value.Value, len(first))
	for i, v := range first {
		kept[i] = carve.Whole(carve.Roomy(v))
	}
	for range 20 {
		for i, v := range all() {
			if !carve.Equal(v, first[i]) {
				t.Errorf("%+v, not %+v", v, first[i])
			}
		}
	}
	for i, v := range first {
		if !carve.Equal(carve.Whole(carve.Roomy(v)), kept[i]) {
			t.Errorf("%+v, not %+v", v, kept[i])
		}
	}
	if !carve.Equal(carve.Whole(a), was) || !carve.Equal(carve.Whole(b), is) {
		t.Errorf("%+v, %+v", a, b)
	}
	if !slices.Equal(from[:cap(from)][:4], []string{"e", "a", "behind", "behind"}) || !slices.Equal(to[:cap(to)][:4], []string{"a", "f", "behind", "behind"}) {
		t.Errorf("%q, %q", from, to)
	}
	// Keys are the mapping's own, and not those that were handed in.
	v := merge.Move(a, from, to)
	in, out := merge.Part(a, from)
	from[0], from[1], to[0], to[1] = "written", "written", "written", "written"
	hold(t, "moved", v, "{a: !leaf 1, c: {d: y}, f: [x]}")
	hold(t, "in", in, "{a: [x], e: !leaf 1}")
	hold(t, "out", out, "{c: {d: y}}")
}

// R4: nil and empty lists are one.
func TestEmpty(t *testing.T) {
	bare, empty := value.Value{Kind: value.Map, Tag: "map"}, value.Value{Kind: value.Map, Tag: "map", Keys: []string{}, Kids: []value.Value{}}
	for _, l := range [][]int{nil, {}} {
		for _, o := range [][]int{nil, {}} {
			if len(merge.Splice(l, even, o)) != 0 || !slices.Equal(merge.Splice(l, even, []int{1}), []int{1}) || !slices.Equal(merge.Splice([]int{1, 2}, even, o), []int{1}) {
				t.Error(l == nil, o == nil)
			}
		}
	}
	for _, l := range [][]value.Value{nil, {}} {
		if len(merge.Pair(l, l, "k")) != 0 || !slices.Equal(merge.Pair(l, []value.Value{bare}, "k"), []int{-1}) || len(merge.Pair([]value.Value{bare}, l, "k")) != 0 {
			t.Error(l == nil)
		}
	}
	for _, v := range []value.Value{bare, empty} {
		for _, keys := range [][]string{nil, {}} {
			in, out := merge.Part(v, keys)
			for _, x := range []value.Value{in, out, merge.Lay(v, bare), merge.Lay(empty, v), merge.Move(v, keys, keys)} {
				if !carve.Equal(x, bare) {
					t.Errorf("%+v", x)
				}
			}
			hold(t, "moved", merge.Move(of("{a: x}"), keys, nil), "{a: x}")
		}
		hold(t, "laid", merge.Lay(of("!m {a: x}"), v), "!m {a: x}")
	}
}

// wide is a mapping of so many keys, each with its own number behind it, from a number on.
func wide(n, from int) (value.Value, []string) {
	v := carve.Map("")
	for i := range n {
		v.Keys = append(v.Keys, fmt.Sprintf("k%08d", from+i))
		v.Kids = append(v.Kids, carve.Leaf(from+i))
	}
	return v, v.Keys
}

// R1: wide ones are gone through.
func TestWide(t *testing.T) {
	const n = 1 << 17
	v, keys := wide(n, 0)
	w, others := wide(n, n/2)
	both, _ := wide(n+n/2, 0)
	if x := merge.Lay(v, w); !value.Same(x, both) {
		t.Error("laid", len(x.Keys))
	}
	in, out := merge.Part(both, others)
	if first, _ := wide(n/2, 0); !value.Same(in, w) || !value.Same(out, first) {
		t.Error("parted", len(in.Keys), len(out.Keys))
	}
	moved := merge.Move(v, keys, others)
	if !slices.Equal(moved.Keys, others) || !slices.EqualFunc(moved.Kids, v.Kids, value.Same) || !value.Same(merge.Move(moved, others, keys), v) {
		t.Error("moved", len(moved.Keys))
	}
	var items, turned []value.Value
	var numbers []int
	for i := range n {
		items = append(items, carve.Keyed("k", carve.Str(keys[i])))
		numbers = append(numbers, i)
	}
	turned = slices.Clone(items)
	slices.Reverse(turned)
	want := slices.Clone(numbers)
	slices.Reverse(want)
	if l := merge.Pair(append(items, items...), turned, "k"); !slices.Equal(l, want) {
		t.Error("paired", len(l))
	}
	if l := merge.Splice(numbers, even, numbers); len(l) != n+n/2 || l[0] != 0 || l[1] != 1 || l[2] != 1 || l[n] != n/2 || l[len(l)-1] != n-1 {
		t.Error("spliced", len(l))
	}
}

// R1: so are deep ones.
func TestDeep(t *testing.T) {
	v := carve.Nested(1<<18, carve.Str("x"), func(v value.Value) value.Value { return carve.Keyed("k", v) })
	in, out := merge.Part(v, []string{"k"})
	for _, x := range []value.Value{in, merge.Lay(out, v), merge.Lay(v, out), merge.Move(merge.Move(v, []string{"k"}, []string{"l"}), []string{"l"}, []string{"k"}), merge.Entry("map", "k", v.Kids[0])} {
		if !value.Same(x, v) {
			t.Error(x.Keys)
		}
	}
	if l := merge.Pair([]value.Value{v}, []value.Value{v}, "k"); !slices.Equal(l, []int{-1}) {
		t.Error(l)
	}
	if l := merge.Splice([]value.Value{v, v}, func(value.Value) bool { return false }, []value.Value{v}); len(l) != 3 || !value.Same(l[2], v) {
		t.Error(len(l))
	}
}
