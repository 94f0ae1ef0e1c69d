package run_test

import (
	"errors"
	"strconv"
	"strings"
	"testing"

	"stanhope/api"
	"stanhope/run"
)

// fault is a fault as a text: its part, its error and its place.
func fault(p run.Part, e api.Errno, at int) string {
	part := [...]string{"none", "lens", "source", "view", "result"}[p]
	return part + ": " + e.Word() + " at " + strconv.Itoa(at)
}

// told is what a call tells: its fault, as a text, beside which nothing may stand, or ok.
func told(s string, f run.Fault) string {
	switch {
	case !f.Bad() && f == run.Fault{}:
		return "ok"
	case !f.Bad() || f.Part < run.Lens || f.Part > run.Result || s != "":
		return "something beside a fault, or a fault that is none: " + s
	}
	return fault(f.Part, f.Errno, f.At)
}

// checked is what Check tells.
func checked(l string) string {
	from, to, f := run.Check(l)
	if f.Bad() == (from != "" && to != "") {
		return "types beside a fault, or none without one"
	}
	return told(from+to, f)
}

// right are texts of which nothing is wrong.
const (
	right   = "source: {record: {a: str, b?: any}}\nlens: {project: {keep: [a]}}\n"
	rightly = "{a: x, b: [y]}\n"
	shown   = "{a: z}\n"
)

// marked is a text without its mark, and where that stands in it.
func marked(s string) (string, int) {
	ahead, behind, _ := strings.Cut(s, "@")
	return ahead + behind, len(ahead)
}

// P26.1: what is wrong with a lens is told by all calls alike: layer 25's Ready, at its place.
func TestLensFault(t *testing.T) {
	for _, c := range []struct {
		lens string // with a mark at the place
		e    api.Errno
	}{
		{"@", api.ErrNone},
		{"@# x\n", api.ErrNone},
		{"@x\n", api.ErrForm},
		{"\n  @[]\n", api.ErrForm},
		{right + "---\n@" + right, api.ErrMany},
		{right + "a@\xff", api.ErrByte},
		{right + strings.Repeat("#", 65536-len(right)) + "@#", api.ErrSize},
		{right + "types: @*t\n", api.ErrAnchor},
		{right + "@source: str\n", api.ErrTwice},
		{right + "lenses: [@\n", api.ErrSyntax},
		{right + "  @lenses: {}\n", api.ErrIndent},
		{right + "types: \"a@\\q\"\n", api.ErrEscape},
		{right + "types: @" + strings.Repeat("x", 1025), api.ErrScalar},
		{right + "types: " + strings.Repeat("[", 63) + "@[[" + strings.Repeat("]", 65), api.ErrDeep},
		{right + "types: [" + strings.Repeat("x, ", 4096-10) + "@x]", api.ErrNodes},
		{right + "types: @[]\n", api.ErrForm},
		{right + "types: {t: @[str]}\n", api.ErrForm},
		{right + "types: {t: @none}\n", api.ErrName},
		{right + "types: {t: @t}\n", api.ErrLoop},
		{right + "types: {t: {union: [" + strings.Repeat("str, ", 399) + "@str, str]}}\n", api.ErrMany},
		{right + "lenses: {f: {source: str, view: str, lens: @{hoist: a}}}\n", api.ErrLens},
		{right + "lenses: {f: {source: str, view: str, lens: @{use: f}}}\n", api.ErrLoop},
		{script("str", "@[id]"), api.ErrForm},
		{script("str", "@copy"), api.ErrLens},
		{script("str", "{compose: [id, {compose: [id, @{hoist: k}]}]}"), api.ErrLens},
		{script("str", "@{use: f}"), api.ErrName},
		{script("{list: @none}", "id"), api.ErrName},
		{script("{list: @{union: [str, str]}}", "id"), api.ErrForm},
		{script("str", "@{compose: []}"), api.ErrForm},
	} {
		l, at := marked(c.lens)
		want := fault(run.Lens, c.e, at)
		if got := checked(l); got != want {
			t.Errorf("%.200q: %s, not %s", l, got, want)
		}
		for _, s := range []string{"", "x", rightly, shown} {
			for _, got := range []string{told(run.Get(l, s)), told(run.Create(l, s)), told(run.Put(l, s, rightly)), told(run.Put(l, shown, s))} {
				if got != want {
					t.Errorf("%.200q of %q: %s, not %s", l, s, got, want)
				}
			}
		}
	}
}

// misread are texts, with a mark at the place, that aren't documents of the type below.
var misread = []struct {
	s string
	e api.Errno
}{
	// Layer 12's One.
	{"@", api.ErrNone},
	{"@\n# {a: []}\n", api.ErrNone},
	{"{a: []}\n---\n@{a: []}\n", api.ErrMany},
	{"{a: []}@\r\n", api.ErrByte},
	{"{a: []}\n#" + strings.Repeat("x", 65536-9) + "@x", api.ErrSize},
	{"{a: []@", api.ErrSyntax},
	{"a: []\n @b: []\n", api.ErrIndent},
	{"a: [@'" + strings.Repeat("x", 1025) + "']\n", api.ErrScalar},
	{"a: [\"@\\x0\"]\n", api.ErrEscape},
	{"a: " + strings.Repeat("[", 63) + "@[" + strings.Repeat("]", 64), api.ErrDeep},
	{"a: [" + strings.Repeat("x, ", 4094) + "@x]", api.ErrNodes},
	{strings.Repeat("---\n", 16) + "@---\n", api.ErrMany},
	{"a: [@*x]\n", api.ErrAnchor},
	{"a: []\n@a: []\n", api.ErrTwice},
	// Layer 16's Parse, at the node that it tells.
	{"@x\n", api.ErrType},
	{"\n  @~\n", api.ErrType},
	{"---@", api.ErrType},
	{"  @!m {a: []}\n", api.ErrType},
	{"@{b: x}", api.ErrType},
	{"{b: 1, a: [x, 'y', @1, z]}", api.ErrType},
	{"a:\n  - x\n  - @&y true\n", api.ErrType},
	{"@a:\n", api.ErrType},
	{"a: @&y !s []\n", api.ErrType},
	{"{b: @*b, a: &b []}", api.ErrAnchor},
	{"{b: @&b [], a: *b}", api.ErrShare},
	{"{b: @[&b []], a: *b}", api.ErrShare},
	{"{a: [@&b x, *b]}", api.ErrShare},
	{"a: &a []\nb: @{k: *a}\n", api.ErrShare},
	{"@&a {a: [], b: *a}\n", api.ErrShare},
	{"@&a {a: [], c: *a}\n", api.ErrShare},
	{"a: []\nb: @&x [*x]\n", api.ErrCycle},
	{"b: @[&x {k: *x}]\na: []\n", api.ErrCycle},
	{"b: &x [*x]\na: @{}\n", api.ErrType},
	{"a: []\nc: @{k: []}\n", api.ErrType},
	{"a: []\nc: [{k: x}, @{}]\n", api.ErrType},
	{"a: []\nc: [{k: x}, {k: y}, @{v: 1, k: x}]\n", api.ErrTwice},
	{"a: []\nc: [{k: x, v: &v []}, {v: [*v], k: @1}]\n", api.ErrType},
	{"a: []\nc: [&c {k: x}, {v: @[*c], k: y}]\n", api.ErrShare},
}

// P26.1: what is wrong with a source, or a view, is told at its place in that text; with both, of the view.
func TestReadFault(t *testing.T) {
	l := script("{record: {a: {list: str}, b?: dag}, rest: {keyed: {record: {k: str, v?: any}}, by: k}}", "id")
	const good = "{a: [x], b: [y], c: [{k: x, v: &v [*v]}]}"
	hold := func(got, want string) {
		t.Helper()
		if got != want {
			t.Errorf("%s, not %s", got, want)
		}
	}
	for _, c := range misread {
		s, at := marked(c.s)
		t.Run(s[:min(len(s), 30)], func(t *testing.T) {
			hold(told(run.Get(l, s)), fault(run.Source, c.e, at))
			hold(told(run.Put(l, good, s)), fault(run.Source, c.e, at))
			hold(told(run.Create(l, s)), fault(run.View, c.e, at))
			for _, d := range misread {
				old, _ := marked(d.s)
				hold(told(run.Put(l, s, old)), fault(run.View, c.e, at))
			}
		})
	}
	for _, got := range []string{checked(l), told(noText(run.Get(l, good))), told(noText(run.Put(l, good, good))), told(noText(run.Create(l, good)))} {
		hold(got, "ok")
	}
}

// noText leaves the text of an answer without a fault away.
func noText(s string, f run.Fault) (string, run.Fault) {
	if !f.Bad() {
		s = ""
	}
	return s, f
}

// P26.1: the view is of the lens's type of views, the source of that of its sources.
func TestTypeFault(t *testing.T) {
	l := script("{record: {a: {record: {b: str, c?: str}}}}", "{compose: [{hoist: a}, {project: {keep: [b]}}, {sink: {into: k, keys: [b]}}]}")
	const source, view = "{a: {b: x, c: y}}", "{k: {b: z}}"
	for s, want := range map[string]string{
		told(noText(run.Get(l, source))):         "ok",
		told(noText(run.Create(l, view))):        "ok",
		told(noText(run.Put(l, view, source))):   "ok",
		told(run.Get(l, view)):                   fault(run.Source, api.ErrType, 0),
		told(run.Create(l, source)):              fault(run.View, api.ErrType, 0),
		told(run.Put(l, source, view)):           fault(run.View, api.ErrType, 0),
		told(run.Put(l, view, view)):             fault(run.Source, api.ErrType, 0),
		told(run.Put(l, source, source)):         fault(run.View, api.ErrType, 0),
		told(run.Put(l, view, "{a: {c: y}}")):    fault(run.Source, api.ErrType, 4),
		told(run.Put(l, "{k: {b: 1}}", source)):  fault(run.View, api.ErrType, 8),
		told(run.Create(l, "{k: {b: z, c: y}}")): fault(run.View, api.ErrType, 4),
	} {
		if s != want {
			t.Errorf("%s, not %s", s, want)
		}
	}
}

// P26.1: of several errors the lens's is told first, then the view's, the source's, the result's.
func TestFirst(t *testing.T) {
	const good, bad = "[]\n", "  [\n"
	// What is too great has more nodes, as often as they stand, than there may be by a Compose.
	list := script("{list: any}", "{compose: [id]}")
	great := "[&x 1" + strings.Repeat(", *x", 4096) + "]\n"
	for n := range 16 {
		lens, view, source, want := list, good, good, "ok"
		if n&1 > 0 {
			source, want = great, fault(run.Result, api.ErrNodes, 0)
		}
		if n&2 > 0 {
			source, want = bad, fault(run.Source, api.ErrSyntax, 3)
		}
		if n&4 > 0 {
			view, want = bad, fault(run.View, api.ErrSyntax, 3)
		}
		if n&8 > 0 {
			lens, want = bad, fault(run.Lens, api.ErrSyntax, 3)
		}
		if got := told(noText(run.Put(lens, view, source))); got != want {
			t.Errorf("put: %d: %s, not %s", n, got, want)
		}
	}
	for n := range 8 {
		lens, s, part := list, good, [2]string{"ok", "ok"}
		if n&1 > 0 {
			s, part = great, [2]string{fault(run.Result, api.ErrNodes, 0), fault(run.Result, api.ErrNodes, 0)}
		}
		if n&2 > 0 {
			s, part = bad, [2]string{fault(run.Source, api.ErrSyntax, 3), fault(run.View, api.ErrSyntax, 3)}
		}
		if n&4 > 0 {
			lens, part = bad, [2]string{fault(run.Lens, api.ErrSyntax, 3), fault(run.Lens, api.ErrSyntax, 3)}
		}
		if got := [2]string{told(noText(run.Get(lens, s))), told(noText(run.Create(lens, s)))}; got != part {
			t.Errorf("got and created: %d: %s, not %s", n, got, part)
		}
	}
}

// A fault has api's within, whose calls are its own, and is an error by which its number is found.
func TestFaultIs(t *testing.T) {
	_, f := run.Get(right, "{b: 1}")
	if !f.Bad() || f.Word() != "type" || f.Errno != api.ErrType || f.At != 0 || f.Part != run.Source || f.Fault != (api.Fault{Errno: api.ErrType}) {
		t.Errorf("%+v", f)
	}
	var err error = f
	var n api.Errno
	if !errors.Is(err, api.ErrType) || errors.Is(err, api.ErrForm) || !errors.As(err, &n) || n != api.ErrType || err.Error() != "type" {
		t.Errorf("%v, %v", err, n)
	}
	if (run.Fault{}).Bad() || (run.Fault{}).Word() != "ok" {
		t.Error("the zero fault is one")
	}
	if run.Lens != 1 || run.Source != 2 || run.View != 3 || run.Result != 4 {
		t.Error("the parts' numbers")
	}
}
