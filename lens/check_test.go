package lens_test

import (
	"slices"
	"strings"
	"testing"

	"stanhope/api"
	"stanhope/carve"
	"stanhope/grind"
	"stanhope/lens"
	"stanhope/value"
)

// right are texts of lenses with which nothing is wrong.
var right = []string{
	"id", "copy",
	"{const: {view: x, default: y}}", "{const: {view: ~, default: []}}", "{const: {view: !a x, default: {}}}", "{const: {view: 1, default: !m {}}}", "{const: {view: true, default: !s []}}",
	"{compose: [id]}", "{compose: [copy, id, {hoist: a}]}", "{compose: [{compose: [{use: f}]}, {use: f}]}",
	"{project: {keep: []}}", "{project: {keep: [a]}}", "{project: {keep: ['', A, a, aa, b, é]}}", "{project: {keep: [], default: {a: x}}}",
	"{project: {keep: [b, d], default: {a: x, c: [], e: {}}}}", "{project: {keep: [a, c], default: {b: ~}}}",
	"{rename: {a: b}}", "{rename: {a: a}}", "{rename: {a: b, b: a}}", "{rename: {'': z, a: '', c: y}}",
	"{hoist: a}", "{hoist: ''}", "{plunge: a}", "{plunge: a b}", "{lift: a}", "{lift: 'é'}",
	"{sink: {into: k, keys: [a]}}", "{sink: {into: a, keys: [a, b]}}", "{sink: {into: '', keys: ['', b]}}",
	"{filter: [.str]}", "{filter: ['', '.int', '.str', '[seq', x]}",
	"{map: id}", "{items: {map: copy}}", "{keyed: {items: {use: f}}}",
	"{on: {a: id}}", "{on: {'': copy, a: id, b: {use: f}}}", "{on: {a: {on: {a: {map: id}}}, k: {compose: [id, id]}}}",
	"{union: [id, id]}", "{union: [copy, {use: f}, {union: [id, id]}, id]}",
	"{fill: {key: a, value: x}}", "{fill: {key: '', value: ~}}", "{fill: {key: k, value: !a x}}",
	"{translate: {a: b}}", "{translate: {a: a}}", "{translate: {'': x, a: '', b: a}}",
	"{use: f}", "{use: '0'}", "{use: '-'}", "{use: f-1_A}", "{use: " + strings.Repeat("a", 32) + "}",
}

// wrong are texts of lenses with which something is wrong, for itself.
var wrong = []string{
	"{const: {view: [], default: x}}", "{const: {view: {}, default: x}}", "{const: {view: !s [], default: []}}",
	"{compose: []}", "{union: []}", "{union: [id]}",
	"{project: {keep: [b, a]}}", "{project: {keep: [a, a]}}", "{project: {keep: [a, c, b]}}", "{project: {keep: [a], default: {c: x, b: x}}}",
	"{project: {keep: [a], default: {a: x}}}", "{project: {keep: [a, b, c], default: {c: x}}}", "{project: {keep: [b], default: {a: x, b: x, c: x}}}", "{project: {keep: [''], default: {'': x}}}",
	"{rename: {}}", "{rename: {b: c, a: d}}", "{rename: {a: c, b: c}}", "{rename: {a: c, b: d, e: c}}", "{rename: {a: '', b: ''}}",
	"{sink: {into: k, keys: []}}", "{sink: {into: k, keys: [b, a]}}", "{sink: {into: k, keys: [a, a]}}", "{sink: {into: k, keys: [a, b, b]}}",
	"{filter: []}", "{filter: [b, a]}", "{filter: [a, a]}", "{filter: [a, b, c, b]}",
	"{map: []}", "{map: [id, id]}", "{items: []}", "{items: [id, copy, id]}", "{keyed: []}", "{keyed: [id, id]}",
	"{on: {}}", "{on: {b: id, a: id}}", "{on: {a: id, c: id, b: id}}",
	"{translate: {}}", "{translate: {b: c, a: d}}", "{translate: {a: c, b: c}}", "{translate: {a: c, b: d, e: c}}",
	"{use: ''}", "{use: a b}", "{use: a.b}", "{use: é}", "{use: $a}", "{use: " + strings.Repeat("a", 33) + "}",
}

// ill are lenses with which something is wrong, for itself, that no text tells.
func ill() []lens.Lens {
	bad := []string{"\xff", "a\xc3", "\xed\xa0\x80", a(1025)}
	var l []lens.Lens
	with := func(s string, change func(*lens.Lens)) {
		x := of(s)
		change(&x)
		l = append(l, x)
	}
	for _, k := range odd {
		l = append(l, lens.Lens{Kind: k}, lens.Lens{Kind: k, Name: "f", Keys: []string{"a"}, Words: []string{"b"}, Kids: []lens.Lens{of("id")}, Values: []value.Value{carve.Str("x")}})
	}
	for _, s := range bad {
		with("{project: {keep: [], default: {a: x}}}", func(l *lens.Lens) { l.Keys = []string{s} })
		with("{project: {keep: ['']}}", func(l *lens.Lens) { l.Keys = append(l.Keys, s) })
		with("{project: {keep: [], default: {'': x}}}", func(l *lens.Lens) { l.Drops[0] = s })
		with("{rename: {a: b}}", func(l *lens.Lens) { l.Keys[0] = s })
		with("{rename: {'': x, a: y}}", func(l *lens.Lens) { l.Keys[1] = s })
		with("{rename: {a: b}}", func(l *lens.Lens) { l.Words[0] = s })
		with("{rename: {a: b, b: c}}", func(l *lens.Lens) { l.Words[1] = s })
		for _, k := range []string{"{hoist: a}", "{plunge: a}", "{lift: a}", "{sink: {into: a, keys: [a]}}", "{fill: {key: a, value: x}}", "{use: a}"} {
			with(k, func(l *lens.Lens) { l.Name = s })
		}
		with("{sink: {into: a, keys: [a]}}", func(l *lens.Lens) { l.Keys[0] = s })
		with("{on: {a: id}}", func(l *lens.Lens) { l.Keys[0] = s })
	}
	// Keys twice, and lists of unlike lengths.
	for _, s := range []string{"{rename: {a: c, b: d}}", "{on: {a: id, b: id}}", "{translate: {a: c, b: d}}", "{project: {keep: [], default: {a: x, b: x}}}"} {
		with(s, func(l *lens.Lens) {
			for _, k := range [][]string{l.Keys, l.Drops} {
				if len(k) > 0 {
					k[1] = k[0]
				}
			}
		})
	}
	for _, s := range []string{"{rename: {a: c, b: d}}", "{translate: {a: c, b: d}}"} {
		with(s, func(l *lens.Lens) { l.Keys = l.Keys[:1] })
		with(s, func(l *lens.Lens) { l.Words = l.Words[:1] })
		with(s, func(l *lens.Lens) { l.Words = nil })
		with(s, func(l *lens.Lens) { l.Keys = nil })
		with(s, func(l *lens.Lens) { l.Words = append(l.Words, "e") })
	}
	with("{on: {a: id, b: id}}", func(l *lens.Lens) { l.Keys = l.Keys[:1] })
	with("{on: {a: id, b: id}}", func(l *lens.Lens) { l.Keys = nil })
	with("{on: {a: id, b: id}}", func(l *lens.Lens) { l.Kids = l.Kids[:1] })
	with("{on: {a: id}}", func(l *lens.Lens) { l.Kids = nil })
	with("{on: {a: id}}", func(l *lens.Lens) { l.Keys, l.Kids = nil, nil })
	return append(l, unvalued()...)
}

// unvalued are lenses whose Values are not as told.
func unvalued() []lens.Lens {
	var l []lens.Lens
	add := func(s string, v ...value.Value) {
		x := of(s)
		x.Values = v
		l = append(l, x)
	}
	const constant, fill, one, two = "{const: {view: x, default: y}}", "{fill: {key: a, value: x}}", "{project: {keep: [a], default: {b: x}}}", "{project: {keep: [], default: {b: x, c: y}}}"
	x := carve.Str("x")
	add(constant)
	add(constant, x)
	add(constant, x, x, x)
	add(constant, carve.Seq(), x)
	add(constant, carve.Map(""), x)
	add(fill)
	add(fill, x, x)
	add(fill, carve.Seq())
	add(fill, carve.Tagged("!m", carve.Map("")))
	add("{project: {keep: [a]}}", x)
	add("{project: {keep: []}}", x, x)
	add(one)
	add(one, x, x)
	add(two, x)
	add(two, x, x, x)
	for _, v := range strange() {
		add(constant, v, x)
		add(constant, x, v)
		add(fill, v)
		add(one, v)
		add(two, x, v)
		add(two, v, x)
	}
	return l
}

// broken are all lenses with which something is wrong, for itself.
func broken() []lens.Lens {
	l := ill()
	for _, s := range wrong {
		l = append(l, of(s))
	}
	return l
}

// holdCheck asks for what is wrong with a lens, with what plays no part, too.
func holdCheck(t *testing.T, l lens.Lens, want api.Fault) {
	t.Helper()
	for _, x := range []lens.Lens{l, grind.Noisy(l)} {
		if f := x.Check(); f != want {
			t.Errorf("%+v: %v at %d, not %v at %d", x, f, f.At, want, want.At)
		}
	}
}

// form is ErrForm at a place.
func form(at int) api.Fault { return api.Fault{Errno: api.ErrForm, At: at} }

// P17.1: lenses that are as told.
func TestRight(t *testing.T) {
	for _, s := range right {
		holdCheck(t, of(s), api.Fault{})
	}
	long := []string{a(1023) + "\n", a(1024)}
	for _, l := range []lens.Lens{
		{Kind: lens.Project, Keys: long[:1], Drops: long[1:], Values: []value.Value{carve.Str(a(1024))}},
		{Kind: lens.Rename, Keys: long, Words: []string{long[1], long[0]}},
		{Kind: lens.Hoist, Name: long[1]}, {Kind: lens.Plunge, Name: long[1]}, {Kind: lens.Lift, Name: long[1]},
		{Kind: lens.Sink, Name: long[1], Keys: long},
		{Kind: lens.On, Keys: long, Kids: []lens.Lens{of("id"), of("id")}},
		{Kind: lens.Fill, Name: long[1], Values: []value.Value{carve.Str(a(1024))}},
		// What is no key may be any text.
		{Kind: lens.Filter, Words: []string{"", a(5000), "\xff"}},
		{Kind: lens.Translate, Keys: []string{a(1025), "\xff"}, Words: []string{"\xff", a(2000)}},
	} {
		holdCheck(t, l, api.Fault{})
	}
}

// around are lenses with which nothing is wrong, if nothing is with those of their Kids that are handed in.
var around = map[string]func(x, y lens.Lens) lens.Lens{
	"compose": func(x, y lens.Lens) lens.Lens { return lens.Lens{Kind: lens.Compose, At: 1, Kids: []lens.Lens{x, y}} },
	"union":   func(x, y lens.Lens) lens.Lens { return lens.Lens{Kind: lens.Union, At: 1, Kids: []lens.Lens{x, y}} },
	"on": func(x, y lens.Lens) lens.Lens {
		return lens.Lens{Kind: lens.On, At: 1, Keys: []string{"a", "b"}, Kids: []lens.Lens{x, y}}
	},
	"deep": func(x, y lens.Lens) lens.Lens {
		m := lens.Lens{Kind: lens.Map, At: 1, Kids: []lens.Lens{{Kind: lens.Items, At: 2, Kids: []lens.Lens{x}}}}
		k := lens.Lens{Kind: lens.Keyed, At: 3, Kids: []lens.Lens{{Kind: lens.Compose, At: 4, Kids: []lens.Lens{y}}}}
		return lens.Lens{Kind: lens.Union, At: 5, Kids: []lens.Lens{of("id"), m, k}}
	},
}

// P17.1: lenses that aren't as told, for themselves, and within others.
func TestForm(t *testing.T) {
	id := lens.Lens{Kind: lens.Id, At: 9}
	for _, l := range broken() {
		for _, at := range []int{0, 7, -7, 1 << 40} {
			l.At = at
			holdCheck(t, l, form(at))
		}
		l.At = 55
		for name, f := range around {
			holdCheck(t, f(l, id), form(55))
			holdCheck(t, f(id, l), form(55))
			holdCheck(t, f(id, f(l, id)), form(55))
			// The first of two.
			holdCheck(t, f(l, lens.Lens{At: 66}), form(55))
			holdCheck(t, f(lens.Lens{At: 66}, l), form(66))
			if f := f(id, id).Check(); f.Bad() {
				t.Errorf("%s: %v at %d", name, f, f.At)
			}
		}
	}
}

// P17.1: which of several is the first: a lens ahead of its Kids, these in order.
func TestFirst(t *testing.T) {
	for _, s := range []string{
		"^{union: [{use: ''}]}",
		"^{on: {b: {use: ''}, a: {use: ''}}}",
		"^{map: [{use: ''}, {use: ''}]}",
		"{compose: [^{use: ''}, {use: ''}]}",
		"{compose: [id, {items: ^{filter: []}}, {use: ''}]}",
		"{compose: [id, {items: ^{union: [{filter: []}]}}, {use: ''}]}",
		"{compose: [{items: id}, ^{compose: []}, {map: {compose: []}}]}",
		"{union: [{union: [{union: [id, id]}, id]}, {map: {map: {map: ^{rename: {}}}}}]}",
		"{on: {a: {on: {a: id, b: ^{on: {}}}}, b: {on: {}}}}",
		"{on: {a: {on: {a: id, b: {compose: [id, id, id]}}}, b: ^{on: {}}}}",
		"{keyed: {compose: [{hoist: a}, {plunge: a}, {lift: a}, ^{sink: {into: a, keys: []}}, {use: ''}]}}",
	} {
		i := strings.Index(s, "^")
		holdCheck(t, of(strings.Replace(s, "^", "", 1)), form(i))
	}
}

// P17.1: keys of any length, byte by byte around what is allowed.
func TestLengths(t *testing.T) {
	for n := 1020; n < 1030; n++ {
		for _, s := range []string{a(n), a(n-2) + "é"} {
			want := api.Fault{}
			if n > 1024 {
				want = form(3)
			}
			holdCheck(t, lens.Lens{Kind: lens.Lift, At: 3, Name: s}, want)
			holdCheck(t, lens.Lens{Kind: lens.Project, At: 3, Keys: []string{s}}, want)
			holdCheck(t, lens.Lens{Kind: lens.Project, At: 3, Drops: []string{s}, Values: []value.Value{carve.Str("")}}, want)
			holdCheck(t, lens.Lens{Kind: lens.Rename, At: 3, Keys: []string{"k"}, Words: []string{s}}, want)
			holdCheck(t, lens.Lens{Kind: lens.On, At: 3, Keys: []string{s}, Kids: []lens.Lens{{Kind: lens.Id}}}, want)
			holdCheck(t, lens.Lens{Kind: lens.Const, At: 3, Values: []value.Value{carve.Str(s), carve.Seq()}}, want)
			holdCheck(t, lens.Lens{Kind: lens.Fill, At: 3, Name: "k", Values: []value.Value{carve.Str(s)}}, want)
		}
	}
	for n := range 40 {
		want := form(3)
		if n > 0 && n <= 32 {
			want = api.Fault{}
		}
		holdCheck(t, lens.Lens{Kind: lens.Use, At: 3, Name: a(n)}, want)
	}
}

// P17.1: lists of all lengths that are small, of each kind that has lists.
func TestCounts(t *testing.T) {
	texts := []string{"a", "b", "c", "d"}
	values := slices.Repeat([]value.Value{carve.Str("x")}, 4)
	kids := slices.Repeat([]lens.Lens{{Kind: lens.Id}}, 4)
	for n := range 5 {
		for m := range 5 {
			for l, ok := range map[*lens.Lens]bool{
				{Kind: lens.Const, Values: values[:n]}:                               n == 2,
				{Kind: lens.Compose, Kids: kids[:n]}:                                 n > 0,
				{Kind: lens.Project, Drops: texts[:n], Values: values[:m]}:           n == m,
				{Kind: lens.Project, Keys: texts[:n], Drops: texts[4:], Values: nil}: true,
				{Kind: lens.Rename, Keys: texts[:n], Words: texts[:m]}:               n == m && n > 0,
				{Kind: lens.Sink, Name: "k", Keys: texts[:n]}:                        n > 0,
				{Kind: lens.Filter, Words: texts[:n]}:                                n > 0,
				{Kind: lens.Map, Kids: kids[:n]}:                                     n == 1,
				{Kind: lens.Items, Kids: kids[:n]}:                                   n == 1,
				{Kind: lens.Keyed, Kids: kids[:n]}:                                   n == 1,
				{Kind: lens.On, Keys: texts[:n], Kids: kids[:m]}:                     n == m && n > 0,
				{Kind: lens.Union, Kids: kids[:n]}:                                   n > 1,
				{Kind: lens.Fill, Name: "k", Values: values[:n]}:                     n == 1,
				{Kind: lens.Translate, Keys: texts[:n], Words: texts[:m]}:            n == m && n > 0,
			} {
				want := api.Fault{}
				if !ok {
					want = form(0)
				}
				holdCheck(t, *l, want)
			}
		}
	}
}
