package lens_test

import (
	"maps"
	"math/rand"
	"slices"
	"sort"
	"strings"
	"testing"
	"unicode/utf8"

	"stanhope/api"
	"stanhope/carve"
	"stanhope/char"
	"stanhope/grind"
	"stanhope/lens"
	"stanhope/value"
)

// place is a lens in another one, and of each lens around it, from the outermost on, which of its Kids leads there.
type place struct {
	of    lens.Lens
	above []lens.Lens
	kid   []int
}

// places are a lens and all in it, a lens ahead of its Kids.
func places(p place) []place {
	l := []place{p}
	if slices.Contains([]lens.Kind{lens.Compose, lens.Map, lens.Items, lens.Keyed, lens.On, lens.Union}, p.of.Kind) {
		for i, k := range p.of.Kids {
			l = append(l, places(place{k, append(slices.Clone(p.above), p.of), append(slices.Clone(p.kid), i)})...)
		}
	}
	return l
}

// low says whether a use at a place is low.
func (p place) low() bool {
	held := false
	for i, l := range p.above {
		switch l.Kind {
		case lens.Map, lens.Items, lens.Keyed, lens.On:
			held = true
		case lens.Compose:
			for j, k := range l.Kids {
				if j != p.kid[i] && k.Kind != lens.Id && k.Kind != lens.Rename {
					return false
				}
			}
		}
	}
	return held
}

// rising says whether texts rise.
func rising(l []string) bool {
	return sort.StringsAreSorted(l) && len(slices.Compact(slices.Clone(l))) == len(l)
}

// unlike says whether no two texts are alike.
func unlike(l []string) bool {
	set := map[string]bool{}
	for _, s := range l {
		set[s] = true
	}
	return len(set) == len(l)
}

// all says whether something is so of all texts.
func all(l []string, is func(string) bool) bool {
	return !slices.ContainsFunc(l, func(s string) bool { return !is(s) })
}

// isKey says whether a text is a key.
func isKey(s string) bool { return utf8.ValidString(s) && len(s) <= 1024 }

// literals says whether so many values are literals.
func literals(l []value.Value, n int) bool {
	ok := len(l) == n
	for _, v := range l {
		ok = ok && v.May() && v.Kind != value.Leaf && (v.Kind == value.Scalar || len(v.Kids) == 0)
	}
	return ok
}

// slowRight says whether a lens is as told, for itself.
func slowRight(l lens.Lens) bool {
	several := len(l.Keys) > 0 && rising(l.Keys)
	switch l.Kind {
	case lens.Id, lens.Copy:
		return true
	case lens.Const:
		return literals(l.Values, 2) && l.Values[0].Kind == value.Scalar
	case lens.Compose:
		return len(l.Kids) > 0
	case lens.Project:
		for _, k := range l.Drops {
			if slices.Contains(l.Keys, k) {
				return false
			}
		}
		return rising(l.Keys) && rising(l.Drops) && all(l.Keys, isKey) && all(l.Drops, isKey) && literals(l.Values, len(l.Drops))
	case lens.Rename:
		return several && all(l.Keys, isKey) && len(l.Words) == len(l.Keys) && all(l.Words, isKey) && unlike(l.Words)
	case lens.Hoist, lens.Plunge, lens.Lift:
		return isKey(l.Name)
	case lens.Sink:
		return isKey(l.Name) && several && all(l.Keys, isKey)
	case lens.Filter:
		return len(l.Words) > 0 && rising(l.Words)
	case lens.Map, lens.Items, lens.Keyed:
		return len(l.Kids) == 1
	case lens.On:
		return several && all(l.Keys, isKey) && len(l.Kids) == len(l.Keys)
	case lens.Union:
		return len(l.Kids) > 1
	case lens.Fill:
		return isKey(l.Name) && literals(l.Values, 1) && l.Values[0].Kind == value.Scalar
	case lens.Translate:
		return several && len(l.Words) == len(l.Keys) && unlike(l.Words)
	case lens.Use:
		return char.Name(l.Name)
	}
	return false
}

// set is a set of names.
type set map[string]bool

// slowly are definitions, by their names.
func slowly(d lens.Defs) map[string]lens.Lens {
	m := map[string]lens.Lens{}
	for i, n := range d.Names {
		m[n] = d.Lenses[i].Lens
	}
	return m
}

// closed are of each name those to which it leads, if next are those to which each leads at once.
func closed(next map[string]set) map[string]set {
	for more := true; more; {
		more = false
		for _, s := range next {
			for _, n := range slices.Collect(maps.Keys(s)) {
				for k := range next[n] {
					more = more || !s[k]
					s[k] = true
				}
			}
		}
	}
	return next
}

// names are the names of the uses among places.
func names(l []place) set {
	s := set{}
	for _, p := range l {
		if p.of.Kind == lens.Use {
			s[p.of.Name] = true
		}
	}
	return s
}

// slowTurns is what is wrong with the uses of definitions.
func slowTurns(d lens.Defs) api.Fault {
	next := map[string]set{}
	for n, l := range slowly(d) {
		next[n] = names(places(place{of: l}))
	}
	leads := closed(next)
	for _, n := range d.Names {
		for _, p := range places(place{of: slowly(d)[n]}) {
			to := p.of.Name
			if p.of.Kind != lens.Use {
				continue
			}
			if !slices.Contains(d.Names, to) {
				return api.Fault{Errno: api.ErrName, At: p.of.At}
			}
			if (to == n || leads[to][n]) && !p.low() {
				return api.Fault{Errno: api.ErrLoop, At: p.of.At}
			}
		}
	}
	return api.Fault{}
}

// straight are the names to which a lens leads at once by Composes, Unions and Uses alone.
func straight(l lens.Lens) set {
	s := set{}
	switch l.Kind {
	case lens.Use:
		s[l.Name] = true
	case lens.Compose, lens.Union:
		for _, k := range l.Kids {
			maps.Copy(s, straight(k))
		}
	}
	return s
}

// keeper tells slowly which keys lenses keep.
type keeper struct {
	defs  map[string]lens.Lens
	leads map[string]set
}

// keeping is a keeper of definitions.
func keeping(d lens.Defs) keeper {
	k := keeper{defs: slowly(d)}
	next := map[string]set{}
	for n, l := range k.defs {
		next[n] = straight(l)
	}
	k.leads = closed(next)
	return k
}

// sound says whether a name leads only to names that are defined and don't turn.
func (k keeper) sound(name string) bool {
	names := maps.Clone(k.leads[name])
	if names == nil {
		names = set{}
	}
	names[name] = true
	for n := range names {
		if _, ok := k.defs[n]; !ok || k.leads[n][n] {
			return false
		}
	}
	return true
}

// keeps says whether a lens keeps a key.
func (k keeper) keeps(l lens.Lens, key string) bool {
	in := slices.Contains(l.Keys, key)
	switch l.Kind {
	case lens.Id:
		return true
	case lens.Compose, lens.Union:
		for _, x := range l.Kids {
			if !k.keeps(x, key) {
				return false
			}
		}
		return true
	case lens.Project:
		return in
	case lens.Rename:
		return !in && !slices.Contains(l.Words, key)
	case lens.Lift, lens.Fill:
		return l.Name != key
	case lens.Sink:
		return l.Name != key && !in
	case lens.On:
		return !in || slices.Index(l.Keys, key) < len(l.Kids) && l.Kids[slices.Index(l.Keys, key)].Kind == lens.Id
	case lens.Use:
		return k.sound(l.Name) && k.keeps(k.defs[l.Name], key)
	}
	return false
}

// hold holds all that is told of a lens against what is told slowly, with what plays no part, too.
func hold(t *testing.T, d lens.Defs, l lens.Lens) (met api.Fault, kept int) {
	t.Helper()
	met = l.Check()
	want := api.Fault{}
	whole := places(place{of: l})
	for _, p := range whole {
		if !slowRight(p.of) {
			want = api.Fault{Errno: api.ErrForm, At: p.of.At}
			break
		}
	}
	noisy := grind.Noisy(l)
	if f := noisy.Check(); met != want || f != want {
		t.Fatalf("%+v: %v at %d, with what plays no part %v at %d, not %v at %d", l, met, met.At, f, f.At, want, want.At)
	}
	uses := slices.Sorted(maps.Keys(names(whole)))
	for _, x := range []lens.Lens{l, noisy} {
		if x.Size() != len(whole) || !slices.Equal(x.Uses(), uses) {
			t.Fatalf("%+v: %d, %q", x, x.Size(), x.Uses())
		}
	}
	k := keeping(d)
	for _, key := range []string{"a", "b", "k", ""} {
		got, want := d.Keeps(l, key), k.keeps(l, key)
		if got != want || grind.NoisyDefs(d).Keeps(noisy, key) != want {
			t.Fatalf("%+v by %+v: keeps %q %v, not %v", l, d, key, got, want)
		}
		if got {
			kept++
		}
	}
	return met, kept
}

// holdDefs holds what is told of definitions against what is told slowly.
func holdDefs(t *testing.T, d lens.Defs) api.Fault {
	t.Helper()
	got, want := d.Turns(), slowTurns(d)
	if f := grind.NoisyDefs(d).Turns(); got != want || f != want {
		t.Fatalf("%+v: %v at %d, with what plays no part %v at %d, not %v at %d", d, got, got.At, f, f.At, want, want.At)
	}
	return got
}

// numbered is a lens anew in which the lenses' places are their numbers, from one on.
func numbered(l lens.Lens, at *int) lens.Lens {
	l.At = *at
	*at++
	l.Kids = slices.Clone(l.Kids)
	for i, k := range l.Kids {
		l.Kids[i] = numbered(k, at)
	}
	return l
}

// Of these the small lenses consist: leaves, and what stands around one or two of them.
var (
	leaves = []string{"id", "{rename: {a: b}}", "{project: {keep: [a]}}", "{use: f}", "{use: g}", "{use: x}"}
	single = []string{"_", "{compose: [_]}", "{map: _}", "{on: {a: _}}", "{compose: [id, _, {rename: {k: a}}]}", "{compose: [_, copy]}", "{union: [_, {items: _}]}"}
	double = []string{"{compose: [_, +]}", "{union: [_, +]}", "{on: {a: _, k: +}}"}
)

// small are the texts of all lenses in which at most two of the parts stand.
func small(parts []string) []string {
	var l []string
	for _, x := range parts {
		for _, f := range single {
			l = append(l, strings.ReplaceAll(f, "_", x))
		}
		for _, y := range parts {
			for _, f := range double {
				l = append(l, strings.NewReplacer("_", x, "+", y).Replace(f))
			}
		}
	}
	return l
}

// P17.1 to P17.3: all pairs of small definitions, with the lenses of each and many others.
func TestSmall(t *testing.T) {
	texts := small(leaves)
	var l []lens.Lens
	for _, s := range texts {
		l = append(l, of(s))
	}
	met := map[api.Errno]int{}
	kept := 0
	for i, x := range l {
		for j, y := range l {
			at := 0
			d := lens.Defs{Names: []string{"f", "g"}, Lenses: []lens.Def{{Lens: numbered(x, &at)}, {Lens: numbered(y, &at)}}}
			met[holdDefs(t, d).Errno]++
			_, n := hold(t, d, l[(i*7+j*11)%len(l)])
			kept += n
		}
	}
	if met[api.OK] < 1000 || met[api.ErrName] < 1000 || met[api.ErrLoop] < 1000 || kept < 1000 {
		t.Error(met, kept)
	}
}

// P17.1 to P17.3: one definition, of all lenses that are small twice over.
func TestTwice(t *testing.T) {
	met := map[api.Errno]int{}
	for _, s := range small(small([]string{"id", "copy", "{use: f}"})) {
		at := 0
		l := numbered(of(s), &at)
		d := lens.Defs{Names: []string{"f"}, Lenses: []lens.Def{{Lens: l}}}
		met[holdDefs(t, d).Errno]++
		hold(t, d, l)
	}
	if met[api.OK] < 500 || met[api.ErrLoop] < 500 {
		t.Error(met)
	}
}

// maker makes lenses as they fall.
type maker struct {
	*rand.Rand
	at    int
	names []string
	often int // one of how many choices is wrong
}

// odd says whether a choice is to be wrong.
func (m *maker) odd() bool { return m.Intn(m.often) == 0 }

// one is one of some texts.
func (m *maker) one(l ...string) string { return l[m.Intn(len(l))] }

// key is a key.
func (m *maker) key() string {
	if m.odd() {
		return m.one("\xff", a(1025), "a\xc3")
	}
	return m.one("a", "b", "c", "d", "k", "", "é", "z")
}

// keys are keys, mostly rising.
func (m *maker) keys(least int) []string {
	var l []string
	for range least + m.Intn(4) {
		l = append(l, m.key())
	}
	if !m.odd() {
		slices.Sort(l)
		l = slices.Compact(l)
	}
	return l
}

// values are so many literals.
func (m *maker) values(n int) []value.Value {
	if m.odd() {
		n = m.Intn(4)
	}
	var l []value.Value
	for range n {
		v := []value.Value{carve.Str("x"), carve.Scalar("int", "1"), carve.Scalar("null", ""), carve.Scalar("!a", "y"), carve.Str(""), carve.Seq(), carve.Map(""), carve.Tagged("!m", carve.Map(""))}[m.Intn(8)]
		if m.odd() {
			v = strange()[m.Intn(len(strange()))]
		}
		l = append(l, v)
	}
	return l
}

// kids are so many lenses.
func (m *maker) kids(n, deep int) []lens.Lens {
	if m.odd() {
		n = m.Intn(4)
	}
	var l []lens.Lens
	for range n {
		l = append(l, m.lens(deep-1))
	}
	return l
}

// shuffled are as many texts as there are keys, mostly unlike.
func (m *maker) shuffled(n int) []string {
	l := []string{"a", "b", "c", "d", "e", "k", "é", ""}
	m.Shuffle(len(l), func(i, j int) { l[i], l[j] = l[j], l[i] })
	if m.odd() {
		l[0] = l[1]
		n = m.Intn(5)
	}
	return l[:min(n, len(l))]
}

// lens makes a lens that is no deeper.
func (m *maker) lens(deep int) lens.Lens {
	m.at++
	l := lens.Lens{At: m.at, Kind: kinds[m.Intn(len(kinds))]}
	if deep > 0 && m.Intn(2) == 0 {
		l.Kind = []lens.Kind{lens.Compose, lens.Union, lens.On, lens.Map, lens.Compose}[m.Intn(5)]
	}
	if deep <= 0 {
		l.Kind = []lens.Kind{lens.Id, lens.Use, lens.Rename, lens.Use, lens.Id, lens.Project, lens.Lift, lens.Sink, lens.Fill, lens.Copy}[m.Intn(10)]
	}
	if m.Intn(20*m.often) == 0 {
		l.Kind = odd[m.Intn(len(odd))]
	}
	switch l.Kind {
	case lens.Const:
		l.Values = append([]value.Value{carve.Str("x")}, m.values(1)...)
	case lens.Compose:
		l.Kids = m.kids(1+m.Intn(3), deep)
	case lens.Union:
		l.Kids = m.kids(2+m.Intn(2), deep)
	case lens.Map, lens.Items, lens.Keyed:
		l.Kids = m.kids(1, deep)
	case lens.On:
		l.Keys = m.keys(1)
		l.Kids = m.kids(len(l.Keys), deep)
	case lens.Project:
		l.Keys, l.Drops = m.keys(0), m.keys(0)
		if !m.odd() {
			l.Drops = slices.DeleteFunc(l.Drops, func(k string) bool { return slices.Contains(l.Keys, k) })
		}
		l.Values = m.values(len(l.Drops))
	case lens.Rename, lens.Translate:
		l.Keys = m.keys(1)
		l.Words = m.shuffled(len(l.Keys))
	case lens.Sink:
		l.Name, l.Keys = m.key(), m.keys(1)
	case lens.Filter:
		l.Words = m.keys(1)
	case lens.Fill:
		l.Name, l.Values = m.key(), m.values(1)
	case lens.Use:
		l.Name = m.one(m.names...)
		if m.odd() {
			l.Name = m.one("none", "", "a b")
		}
	default:
		l.Name = m.key()
	}
	return l
}

// P17.1 to P17.3: lenses and definitions as they fall.
func TestMade(t *testing.T) {
	m := maker{Rand: rand.New(rand.NewSource(17)), names: strings.Fields("a b c d e f g"), often: 60}
	lenses, defs := map[api.Errno]int{}, map[api.Errno]int{}
	kept := [5]int{}
	for range 2500 {
		m.at = 0
		d := lens.Defs{Names: m.names}
		for range m.names {
			d.Lenses = append(d.Lenses, lens.Def{Lens: m.lens(m.Intn(4))})
		}
		defs[holdDefs(t, d).Errno]++
		for range 6 {
			m.at = 1000
			f, n := hold(t, d, m.lens(m.Intn(5)))
			lenses[f.Errno]++
			kept[n]++
		}
		// With fewer names, more of them are definitions that don't turn.
		few := lens.Defs{Names: m.names[:3], Lenses: d.Lenses[:3]}
		defs[holdDefs(t, few).Errno]++
	}
	if lenses[api.OK] < 1500 || lenses[api.ErrForm] < 1500 || defs[api.OK] < 100 || defs[api.ErrName] < 500 || defs[api.ErrLoop] < 500 || slices.Min(kept[:]) < 200 {
		t.Error(lenses, defs, kept)
	}
}

// P17.2: definitions that are bare: of one to five names, each a Union of some Uses, low or not.
func TestRings(t *testing.T) {
	r := rand.New(rand.NewSource(172))
	met := map[api.Errno]int{}
	for range 20000 {
		n := 1 + r.Intn(5)
		d := lens.Defs{Names: strings.Fields("a b c d e")[:n]}
		at := 0
		for range n {
			l := lens.Lens{Kind: lens.Union}
			for range r.Intn(3) {
				k := lens.Lens{Kind: lens.Use, Name: d.Names[r.Intn(n)]}
				if r.Intn(3) > 0 {
					k = lens.Lens{Kind: lens.Items, Kids: []lens.Lens{k}}
				}
				l.Kids = append(l.Kids, k)
			}
			d.Lenses = append(d.Lenses, lens.Def{Lens: numbered(l, &at)})
		}
		met[holdDefs(t, d).Errno]++
	}
	if met[api.OK] < 2000 || met[api.ErrLoop] < 2000 {
		t.Error(met)
	}
}
