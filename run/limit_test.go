package run_test

import (
	"strconv"
	"strings"
	"testing"

	"stanhope/api"
	"stanhope/run"
	"stanhope/strew"
)

// list is a sequence of so many of an item.
func list(n int, item string) string {
	return "[" + strings.TrimSuffix(strings.Repeat(item+", ", n), ", ") + "]"
}

// shared is a sequence of so many of one scalar.
func shared(n int) string { return strings.Replace(list(n, "*x"), "*x", "&x y", 1) }

// around is what stands in so many sequences, one within another.
func around(n int, s string) string {
	return strings.Repeat("[", n) + s + strings.Repeat("]", n)
}

// chain is a mapping in which the key a leads through so many sequences, one within another, though
// the text has them beside one another.
func chain(n int) string {
	s := "{z: [&c1 []"
	for i := 2; i <= n; i++ {
		s += ", &c" + strconv.Itoa(i) + " [*c" + strconv.Itoa(i-1) + "]"
	}
	return s + "], a: *c" + strconv.Itoa(n) + "}"
}

// lines is a sequence of 64 texts, of which all but the last make a line of 1024 bytes, if it is
// indented by 2; the last has so many bytes.
func lines(n int) string {
	return "[" + strings.Repeat(strings.Repeat("x", 1019)+", ", 63) + strings.Repeat("x", n) + "]"
}

// the same text, whatever the number.
func always(s string) func(int) string { return func(int) string { return s } }

// in is a text for each number, within another in the place of a mark.
func in(s string, of func(int) string) func(int) string {
	return func(n int) string { return strings.Replace(s, "@", of(n), 1) }
}

// items are sequences of an item.
func items(item string) func(int) string { return func(n int) string { return list(n, item) } }

// deep are empty sequences within one another.
func deep(n int) string { return around(n, "") }

// limits are lenses with a source for each number, which is got, or a view, which is created, or both,
// for the view to be put; the most that may be, and what is wrong with one more (nothing, where more isn't asked).
var limits = []struct {
	source, lens string
	old, view    func(int) string
	most         int
	e            api.Errno
}{
	// More than 4096 nodes got.
	{"{list: str}", "{plunge: k}", items("x"), nil, 4094, api.ErrNodes},
	{"{list: str}", "{items: {plunge: k}}", items("x"), nil, 2047, api.ErrNodes},
	{"{record: {a: {list: str}}}", "{sink: {into: k, keys: [a]}}", in("{a: @}", items("x")), nil, 4093, api.ErrNodes},
	{"{record: {a: {list: str}, b?: int}}", "{fill: {key: b, value: 1}}", in("{a: @}", items("x")), nil, 4093, api.ErrNodes},
	// What stands behind a leaf, too; as often as it stands there it counts once.
	{"any", "{plunge: k}", items("x"), nil, 4094, api.ErrNodes},
	{"{list: any}", "{plunge: k}", shared, nil, 8000, api.OK},
	{"{list: any}", "{items: {plunge: k}}", shared, nil, 4094, api.ErrNodes},
	// Within a Compose, where a leaf counts as often as it stands.
	{"{list: str}", "{compose: [{items: {plunge: k}}, {items: {hoist: k}}]}", items("x"), nil, 2047, api.ErrNodes},
	{"{list: str}", "{compose: [{plunge: k}, {plunge: l}, {hoist: l}, {hoist: k}]}", items("x"), nil, 4093, api.ErrNodes},
	{"{list: str}", "{compose: [{items: {compose: [{plunge: k}, {hoist: k}]}}]}", items("x"), nil, 4095, api.OK},
	{"{list: any}", "{compose: [id]}", shared, nil, 4095, api.ErrNodes},
	{"{list: any}", "id", shared, nil, 10000, api.OK},
	// Created.
	{"{record: {a: {list: str}}}", "{hoist: a}", nil, items("x"), 4094, api.ErrNodes},
	{"{list: {record: {a: str}}}", "{items: {hoist: a}}", nil, items("x"), 2047, api.ErrNodes},
	{"{record: {a: {list: str}, b: str, c: int}}", "{project: {keep: [a], default: {b: '', c: 0}}}", nil, in("{a: @}", items("x")), 4092, api.ErrNodes},
	{"{list: str}", "{compose: [{items: {plunge: k}}, {items: {hoist: k}}]}", nil, items("x"), 2047, api.ErrNodes},
	{"{record: {a: any}}", "{hoist: a}", nil, items("x"), 4094, api.ErrNodes},
	// Put: what isn't shown counts, too.
	{"{record: {a: {list: str}, b: {list: str}}}", "{project: {keep: [a], default: {b: []}}}", in("{a: [], b: @}", always(list(2000, "x"))), in("{a: @}", items("x")), 2093, api.ErrNodes},
	{"{record: {a: {list: str}, b: {list: str}}}", "{project: {keep: [a], default: {b: []}}}", in("{a: [], b: @}", items("x")), in("{a: @}", always(list(2000, "x"))), 2093, api.ErrNodes},
	{"{record: {a: any, b?: any}}", "{project: {keep: [a]}}", in("{a: [], b: @}", items("x")), in("{a: @}", always(list(2000, "y"))), 2093, api.ErrNodes},
	{"{record: {a: any, b?: any}}", "{project: {keep: [a]}}", in("{a: &x @, b: *x}", items("x")), in("{a: @}", items("x")), 4094, api.OK},
	{"{record: {a: any, b?: any}}", "{project: {keep: [a]}}", in("{a: &x @, b: *x}", items("x")), in("{a: @}", items("y")), 2046, api.ErrNodes},
	{"{list: {union: [str, int]}}", "{filter: [.int]}", items("x"), always("[7, 7]"), 4093, api.ErrNodes},
	{"{record: {a: {list: str}}}", "{hoist: a}", always("{a: []}"), items("x"), 4094, api.ErrNodes},
	// Put, within a Compose: what the source shows on the way, and what is put back.
	{"{list: str}", "{compose: [{items: {plunge: k}}, {items: {hoist: k}}]}", items("x"), always("[]"), 2047, api.ErrNodes},
	{"{list: str}", "{compose: [{items: {plunge: k}}, {items: {hoist: k}}]}", always("[]"), items("x"), 2047, api.ErrNodes},
	{"{list: any}", "{compose: [id, id]}", always("[]"), shared, 4095, api.ErrNodes},
	{"{list: any}", "{compose: [id]}", shared, always("[]"), 4095, api.ErrNodes},
	{"{list: any}", "id", shared, always("[]"), 10000, api.OK},
	{"{list: str}", "{items: {plunge: k}}", items("x"), always("[]"), 4095, api.OK},
	// Within more than 64 others.
	{"any", "copy", deep, nil, 64, api.OK},
	{"any", "{plunge: k}", deep, nil, 63, api.ErrDeep},
	{"any", "{compose: [{plunge: k}, {plunge: l}, {plunge: m}]}", deep, nil, 61, api.ErrDeep},
	{"any", "{compose: [{plunge: k}, {plunge: l}, {hoist: l}, {hoist: k}]}", deep, nil, 64, api.OK},
	{"any", "copy", chain, nil, 63, api.ErrDeep},
	{"{record: {}, rest: any}", "id", chain, nil, 63, api.ErrDeep},
	{"{record: {a: any}}", "{hoist: a}", nil, deep, 63, api.ErrDeep},
	{"{record: {a: any}}", "{hoist: a}", always("{a: x}"), deep, 63, api.ErrDeep},
	{"{record: {a: any, b?: any}}", "{project: {keep: [a]}}", in("{a: [], b: @}", deep), in("{a: @}", always("x")), 63, api.OK},
	{"{record: {b?: any, z: any}}", "{project: {keep: [z]}}", func(n int) string { return "{z: &z " + around(40, "") + ", b: " + around(n, "*z") + "}" }, in("{z: @}", always(around(40, ""))), 23, api.ErrDeep},
	{"{record: {b?: any, z: any}}", "{project: {keep: [z]}}", func(n int) string { return "{z: &z " + around(40, "") + ", b: " + around(n, "*z") + "}" }, in("{z: @}", always(around(39, ""))), 23, api.ErrDeep},
	// More than 65536 bytes.
	{"{list: str}", "id", lines, nil, 1024, api.OK},
	{"{list: str}", "{plunge: k}", lines, nil, 1016, api.ErrSize},
	{"any", "{plunge: k}", lines, nil, 1016, api.ErrSize},
	{"{record: {k: {list: str}}}", "{hoist: k}", nil, lines, 1016, api.ErrSize},
	{"{record: {k: {list: str}}}", "{hoist: k}", always("{k: []}"), lines, 1016, api.ErrSize},
	{"{record: {k: {list: str}}}", "id", in("{k: @}", lines), nil, 1016, api.ErrSize},
	{"{record: {a: str, k: {list: str}}}", "{project: {keep: [a], default: {k: []}}}", in("{a: x, k: @}", lines), always("a: y"), 1011, api.ErrSize},
	{"{record: {a: str, k: {list: str}}}", "{project: {keep: [a], default: {k: []}}}", always("{a: x, k: " + lines(1000) + "}"), func(n int) string { return "a: " + strings.Repeat("y", n) }, 12, api.ErrSize},
}

// P26.3: limits of what is got, put or created, and the number above each.
func TestLimits(t *testing.T) {
	for i, c := range limits {
		l := script(c.source, c.lens)
		call := func(n int) string {
			switch {
			case c.view == nil:
				return told(noText(run.Get(l, c.old(n))))
			case c.old == nil:
				return told(noText(run.Create(l, c.view(n))))
			}
			return told(noText(run.Put(l, c.view(n), c.old(n))))
		}
		if got := call(c.most); got != "ok" {
			t.Errorf("%d: %s of %d: %s", i, l, c.most, got)
		}
		if want := fault(run.Result, c.e, 0); c.e != api.OK && call(c.most+1) != want {
			t.Errorf("%d: %s of %d: %s, not %s", i, l, c.most+1, call(c.most+1), want)
		}
	}
}

// P26.3: of several limits that are passed too many nodes are told first, then what stands too deep, then too many bytes.
func TestLimitsFirst(t *testing.T) {
	const plunge = "{compose: [{plunge: k}, {plunge: l}]}"
	hoist := script("{record: {k: {record: {l: any}}}}", "{compose: [{hoist: k}, {hoist: l}]}")
	for n := range 8 {
		count, item, last, want := 4000, "x", "x", "ok"
		if n&1 > 0 {
			item, want = strings.Repeat("x", 12), fault(run.Result, api.ErrSize, 0)
		}
		if n&2 > 0 {
			last, want = around(63, ""), fault(run.Result, api.ErrDeep, 0)
		}
		if n&4 > 0 {
			count, want = 4093, fault(run.Result, api.ErrNodes, 0)
			if n&2 > 0 {
				count -= 62
			}
		}
		s := "[" + strings.Repeat(item+", ", count) + last + "]"
		for _, got := range []string{told(noText(run.Get(script("any", plunge), s))), told(noText(run.Create(hoist, s))), told(noText(run.Put(hoist, s, "{k: {l: x}}")))} {
			if got != want {
				t.Errorf("%d: %s, not %s", n, got, want)
			}
		}
	}
}

// near is a number near one at which a limit is passed by one lens or another, of items that are so many nodes each.
func near(m strew.Maker, each, others int) int {
	return (4096-others)/(each+m.Below(2)) - m.Below(6)
}

// P26.3: lenses, as they fall, of about as many nodes as there may be; what isn't beyond a limit is put and got as it should be.
func TestLimitsFall(t *testing.T) {
	m, met := falling(265), make(map[string]int)
	links := []string{"id", "{plunge: k}", "{hoist: k}", "{items: {plunge: k}}", "{items: {hoist: k}}", "{project: {keep: [k]}}", "{compose: [{plunge: k}, {hoist: k}]}", "{on: {k: {items: {plunge: l}}}}"}
	sources := []struct {
		source       string
		text         func(n int) string
		each, others int // how many nodes an item has, and how many there are besides
	}{
		{"{list: any}", items("x"), 1, 1},
		{"{list: any}", shared, 1, 1},
		{"any", items("x"), 1, 1},
		{"{record: {k: {list: any}}}", in("{k: @}", items("x")), 1, 2},
		{"{record: {k: {list: any}, h?: {list: any}}}", in("{k: @, h: "+list(1000, "x")+"}", items("x")), 1, 1003},
		{"{record: {k: {list: any}, h?: any}}", in("{h: &x [y], k: @}", items("*x")), 1, 3},
		{"{list: {record: {k: any}}}", items("{k: x}"), 2, 1},
		{"{list: {record: {k: any, h?: str}}}", items("{k: x, h: y}"), 3, 1},
	}
	for range 150 {
		x := sources[m.Below(len(sources))]
		l := script(x.source, links[m.Below(len(links))])
		for range m.Below(6) {
			more := strings.Replace(l, "lens: ", "lens: {compose: [", 1)
			more = strings.TrimSuffix(more, "\n") + ", " + links[m.Below(len(links))] + "]}\n"
			if _, _, f := run.Check(more); !f.Bad() {
				l = more
			}
		}
		if _, _, f := run.Check(l); f.Bad() {
			continue
		}
		s := x.text(near(m, x.each, x.others))
		w := call(run.Get(l, x.text(near(m, x.each, x.others))))
		if w.Bad() {
			w = call(run.Get(l, x.text(7)))
		}
		got, put, made := trial{l, w.text, s}.each(t)
		for _, a := range []answer{got, put, made} {
			met[fault(a.Part, a.Errno, a.At)]++
		}
		if put.Bad() {
			continue
		}
		if a := call(run.Get(l, put.text)); a != w && a.Part != run.Result {
			t.Errorf("%s: part %d, %v at %d", l, a.Part, a, a.At)
		}
	}
	if met["none: ok at 0"] < 50 || met[fault(run.Result, api.ErrNodes, 0)] < 25 {
		t.Error(met)
	}
}
