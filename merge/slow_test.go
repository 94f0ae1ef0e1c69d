package merge_test

import (
	"math/rand"
	"slices"
	"strings"
	"testing"

	"stanhope/carve"
	"stanhope/merge"
	"stanhope/short"
	"stanhope/value"
)

// slowSplice is what is spliced, by runs of what isn't kept: one ahead of the first kept item, and one behind each.
func slowSplice(source, view string, keep func(byte) bool) string {
	runs := []string{""}
	for i := range len(source) {
		if keep(source[i]) {
			runs = append(runs, "")
		} else {
			runs[len(runs)-1] += source[i : i+1]
		}
	}
	s := runs[0]
	runs = runs[1:]
	for i := range len(view) {
		s += view[i : i+1]
		if i < len(runs) {
			s += runs[i]
		}
	}
	return s + strings.Join(runs[min(len(view), len(runs)):], "")
}

// those are the bytes of a text of which something is so.
func those(s string, is func(byte) bool) string {
	l := slices.DeleteFunc([]byte(s), func(b byte) bool { return !is(b) })
	return string(l)
}

// small says whether a byte is a small letter, and great whether it is none.
func small(b byte) bool { return b >= 'a' }
func great(b byte) bool { return !small(b) }

// holdSplice asks P19.1 and P19.4 of a source and a view, of which small letters are kept.
func holdSplice(t *testing.T, source, view string) {
	t.Helper()
	got := string(merge.Splice([]byte(source), small, []byte(view)))
	if want := slowSplice(source, view, small); got != want {
		t.Errorf("%s by %s: %s, not %s", source, view, got, want)
	}
	if those(view, great) != "" {
		return
	}
	if those(got, small) != view || those(got, great) != those(source, great) {
		t.Errorf("%s by %s: %s", source, view, got)
	}
}

// P19.1, P19.4: all short sources by all short views, and by their own kept items.
func TestSpliceShort(t *testing.T) {
	for source := range short.Texts(6, "a", "b", "A", "B") {
		for view := range short.Texts(4, "a", "x", "X") {
			holdSplice(t, source, view)
		}
		if got := string(merge.Splice([]byte(source), small, []byte(those(source, small)))); got != source {
			t.Errorf("%s: %s", source, got)
		}
	}
}

// P19.1, P19.4: long ones.
func TestSpliceLong(t *testing.T) {
	r := rand.New(rand.NewSource(191))
	some := func(n int, from string) string {
		b := make([]byte, r.Intn(n))
		for i := range b {
			b[i] = from[r.Intn(len(from))]
		}
		return string(b)
	}
	for range 2000 {
		holdSplice(t, some(200, "abcABCDEF"), some(100, "abcdefg"))
		holdSplice(t, some(50, "abcABC"), some(100, "abcXYZ"))
	}
}

// slowPair is the number of the first of old items that has the scalar of an item behind a key.
func slowPair(old []value.Value, v value.Value, key string) int {
	x, ok := v.Get(key)
	if !ok || x.Kind != value.Scalar {
		return -1
	}
	return slices.IndexFunc(old, func(o value.Value) bool {
		y, ok := o.Get(key)
		return ok && value.Same(x, y)
	})
}

// P19.2: all short lists of some items by all short lists of them.
func TestPairShort(t *testing.T) {
	items := map[string]value.Value{}
	for i, s := range []string{"{k: x}", "{k: x, l: y}", "{k: !a x}", "{k: y}", "{l: x}", "{k: []}", "x"} {
		items[string(rune('0'+i))] = of(s)
	}
	lists := map[string][]value.Value{}
	for s := range short.Texts(3, "0", "1", "2", "3", "4", "5", "6") {
		for _, i := range strings.Split(s, "") {
			lists[s] = append(lists[s], items[i])
		}
	}
	for s, old := range lists {
		for u, now := range lists {
			got := merge.Pair(old, now, "k")
			if len(got) != len(now) {
				t.Fatalf("%s and %s: %v", s, u, got)
			}
			for i, n := range got {
				if n != slowPair(old, now[i], "k") {
					t.Fatalf("%s and %s: %v", s, u, got)
				}
			}
		}
	}
}

// P19.2: long ones.
func TestPairLong(t *testing.T) {
	r := rand.New(rand.NewSource(192))
	tags, texts := []string{"str", "!a", "!ab", "!abc"}, []string{"", "a", "b", "ab", "bc", "c", "x", "y"}
	for range 300 {
		some := func() []value.Value {
			var l []value.Value
			for range r.Intn(60) {
				x := carve.Scalar(tags[r.Intn(len(tags))], texts[r.Intn(len(texts))])
				switch r.Intn(12) {
				case 0:
					x = carve.Seq(x)
				case 1:
					x = carve.Leaf(r.Intn(3))
				}
				v := carve.Map("a k z", carve.Str("x"), x, carve.Str("y"))
				if r.Intn(10) == 0 {
					v = carve.Keyed("l", x)
				}
				l = append(l, v)
			}
			return l
		}
		old, now := some(), some()
		for i, n := range merge.Pair(old, now, "k") {
			if want := slowPair(old, now[i], "k"); n != want {
				t.Errorf("%+v: %d, not %d", now[i], n, want)
			}
		}
	}
}

// pair is a key and what stands behind it.
type pair struct {
	key string
	kid value.Value
}

// apart are a mapping's entries, one by one.
func apart(v value.Value) []pair {
	var l []pair
	for i, k := range v.Keys {
		l = append(l, pair{k, v.Kids[i]})
	}
	return l
}

// together is the mapping of entries; false, if two keys are alike.
func together(tag string, l []pair) (value.Value, bool) {
	slices.SortFunc(l, func(a, b pair) int { return strings.Compare(a.key, b.key) })
	v := carve.Tagged(tag, carve.Map(""))
	for i, e := range l {
		if i > 0 && e.key == l[i-1].key {
			return value.Value{}, false
		}
		v.Keys, v.Kids = append(v.Keys, e.key), append(v.Kids, e.kid)
	}
	return v, true
}

// slowLay is a mapping laid over another one.
func slowLay(a, b value.Value) value.Value {
	l := apart(b)
	for _, e := range apart(a) {
		if !slices.Contains(b.Keys, e.key) {
			l = append(l, e)
		}
	}
	v, _ := together(a.Tag, l)
	return v
}

// slowPart are the entries with some keys, or those without.
func slowPart(v value.Value, keys []string, with bool) value.Value {
	v, _ = together(v.Tag, slices.DeleteFunc(apart(v), func(e pair) bool { return slices.Contains(keys, e.key) != with }))
	return v
}

// slowMove is a mapping by other keys; false, if two come to be alike.
func slowMove(v value.Value, from, to []string) (value.Value, bool) {
	l := apart(v)
	for i, e := range l {
		if n := slices.Index(from, e.key); n >= 0 {
			l[i].key = to[n]
		}
	}
	return together(v.Tag, l)
}

// back says whether a mapping that is moved may be moved back: no two of to are alike, and none of them is a key that stays.
func back(v value.Value, from, to []string) bool {
	for i, k := range to {
		if slices.Contains(to[:i], k) || slices.Contains(v.Keys, k) && !slices.Contains(from, k) {
			return false
		}
	}
	return true
}

// holdParts asks P19.3 and P19.4 of a mapping and some keys.
func holdParts(t *testing.T, v value.Value, keys []string) {
	t.Helper()
	in, out := merge.Part(v, keys)
	if !carve.Equal(in, slowPart(v, keys, true)) || !carve.Equal(out, slowPart(v, keys, false)) {
		t.Errorf("%q by %q: %q, %q", v.Keys, keys, in.Keys, out.Keys)
	}
	if x, y := merge.Lay(in, out), merge.Lay(out, in); !carve.Equal(x, v) || !carve.Equal(y, v) {
		t.Errorf("%q by %q: %q, %q", v.Keys, keys, x.Keys, y.Keys)
	}
}

// holdMove asks P19.3 and P19.4 of a mapping and keys that are to become others; it says whether it could.
func holdMove(t *testing.T, v value.Value, from, to []string) bool {
	t.Helper()
	want, ok := slowMove(v, from, to)
	got := merge.Move(v, from, to)
	if ok && !carve.Equal(got, want) {
		t.Errorf("%q from %q to %q: %q, not %q", v.Keys, from, to, got.Keys, want.Keys)
	}
	if x := merge.Move(got, to, from); ok && back(v, from, to) && !carve.Equal(x, v) {
		t.Errorf("%q from %q to %q, and back: %q", v.Keys, from, to, x.Keys)
	}
	return ok
}

// P19.3, P19.4: all mappings of some keys, laid over one another, parted and moved by all short lists of keys.
func TestEntriesShort(t *testing.T) {
	var mappings []value.Value
	for set := range 16 {
		v := carve.Tagged("!t"+string(rune('a'+set)), carve.Map(""))
		for i, k := range []string{"", "a", "b", "c"} {
			if set>>i&1 == 1 {
				v.Keys, v.Kids = append(v.Keys, k), append(v.Kids, carve.Scalar(v.Tag, k))
			}
		}
		mappings = append(mappings, v)
	}
	var lists [][]string
	for s := range short.Texts(3, "a ", "b ", "c ", "d ") {
		lists = append(lists, strings.Fields(s))
	}
	moved := 0
	for _, v := range mappings {
		for _, w := range mappings {
			if x := merge.Lay(v, w); !carve.Equal(x, slowLay(v, w)) {
				t.Errorf("%q by %q: %q", v.Keys, w.Keys, x.Keys)
			}
		}
		for _, from := range lists {
			holdParts(t, v, from)
			for _, to := range lists {
				unlike := slices.Compact(slices.Sorted(slices.Values(from)))
				if len(from) == len(to) && len(unlike) == len(from) && holdMove(t, v, from, to) {
					moved++
				}
			}
		}
	}
	if moved < 10000 {
		t.Error(moved)
	}
}

// P19.3, P19.4: greater ones, of keys of many bytes.
func TestEntriesLong(t *testing.T) {
	r := rand.New(rand.NewSource(193))
	parts := []string{"a", "b", "A", "é", "\x00", "\U0001f600", "~", "\ufffd", "\u00ff", " "}
	keys := func(n int) []string {
		var l []string
		for range r.Intn(n) {
			k := ""
			for range r.Intn(4) {
				k += parts[r.Intn(len(parts))]
			}
			if !slices.Contains(l, k) {
				l = append(l, k)
			}
		}
		return l
	}
	some := func(tag string) value.Value {
		var l []pair
		for _, k := range keys(60) {
			l = append(l, pair{k, carve.Seq(carve.Str(tag), carve.Leaf(r.Intn(9)))})
		}
		v, _ := together(tag, l)
		return v
	}
	moved := 0
	for range 3000 {
		v, w := some("map"), some("!m")
		if x := merge.Lay(v, w); !carve.Equal(x, slowLay(v, w)) || !x.May() {
			t.Errorf("%q by %q: %q", v.Keys, w.Keys, x.Keys)
		}
		holdParts(t, v, keys(60))
		holdParts(t, v, w.Keys)
		from := slices.Concat(v.Keys, keys(5))
		r.Shuffle(len(from), func(i, j int) { from[i], from[j] = from[j], from[i] })
		from = from[:r.Intn(len(from)+1)]
		from = slices.Compact(slices.Sorted(slices.Values(from)))
		to := slices.Clone(from)
		for i := range to {
			if r.Intn(3) == 0 {
				to[i] += "'"
			}
		}
		r.Shuffle(len(to), func(i, j int) { to[i], to[j] = to[j], to[i] })
		if holdMove(t, v, from, to) {
			moved++
		}
	}
	if moved < 1000 {
		t.Error(moved)
	}
}
