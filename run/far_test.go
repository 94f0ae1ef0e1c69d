package run_test

import (
	"strconv"
	"strings"
	"testing"

	"stanhope/api"
	"stanhope/run"
)

// joined are as many texts as a number says, each with the numbers from 0 on, with something between each two.
func joined(n int, between string, of func(i string) string) string {
	var l []string
	for i := range n {
		l = append(l, of(strconv.Itoa(i)))
	}
	return strings.Join(l, between)
}

// links are sequences beside one another, by the names 0, 1 and so on, each of which has the one ahead of it; the first has a text.
func links(n int, text string) string {
	l := []string{"&0 [" + text + "]"}
	for i := 1; i < n; i++ {
		l = append(l, "&"+strconv.Itoa(i)+" [*"+strconv.Itoa(i-1)+"]")
	}
	return "[" + strings.Join(l, ", ") + "]"
}

// R1: definitions that lead back to themselves, as deep as a text goes.
func TestDeep(t *testing.T) {
	l := script("tree", "{use: grow}", defs)
	for n := range 64 {
		s, w := around(n, "x"), around(n, "{k: y}")
		got, put, made := trial{l, w, s}.each(t)
		if got.Bad() || put.Bad() || made.Bad() {
			t.Fatalf("%d: %+v, %+v, %+v", n, got, put, made)
		}
		if put != made || put.text != emitted(t, around(n, "y")) || got.text != emitted(t, around(n, "{k: x}")) {
			t.Fatalf("%d: %+v, %+v, %+v", n, got, put, made)
		}
	}
	if got := told(run.Get(l, around(64, "x"))); got != fault(run.Result, api.ErrDeep, 0) {
		t.Error(got)
	}
}

// R1: chains of nodes that reach deeper than texts may, but aren't shown.
func TestHidden(t *testing.T) {
	l := script("{record: {a: str, b?: any}}", "{project: {keep: [a]}}")
	s := "{c: " + links(4000, "x") + ", b: *3999, a: x}"
	if got := told(run.Get(l, s)); got != fault(run.Source, api.ErrType, 0) {
		t.Error(got)
	}
	s = "{b: {c: " + links(4000, "x") + ", b: *3999}, a: x}"
	if got := of(t, "hidden")(run.Get(l, s)); got != "a: x\n" {
		t.Error(got)
	}
	if got := told(run.Put(l, "a: y", s)); got != fault(run.Result, api.ErrDeep, 0) {
		t.Error(got)
	}
}

// R1: as many parts as there may be, and as many entries and items.
func TestWide(t *testing.T) {
	ids := strings.TrimSuffix(strings.Repeat("id, ", 396), ", ")
	for _, l := range []string{
		script("{list: str}", "{compose: ["+ids+", id]}"),
		script("{list: str}", "{items: {compose: ["+ids+"]}}"),
		script("{list: str}", "{compose: ["+strings.Repeat("{plunge: k}, ", 198)+strings.TrimSuffix(strings.Repeat("{hoist: k}, ", 198), ", ")+"]}"),
	} {
		(trial{l, list(3000, "y"), list(1000, "x")}).laws(t)
	}
	entry := func(behind string) func(string) string {
		return func(i string) string { return "k" + i + ": " + behind }
	}
	fields := "{record: {" + joined(190, ", ", entry("str")) + ", h: any}}"
	keys := joined(190, ", ", func(i string) string { return "k" + i })
	x, y := joined(190, ", ", entry("x")), joined(190, ", ", entry("y"))
	for lens, view := range map[string]string{
		"id": "{" + y + ", h: z}",
		"{sink: {into: s, keys: [" + keys + "]}}":                                                     "{h: z, s: {" + y + "}}",
		"{on: {" + joined(190, ", ", entry("id")) + "}}":                                              "{" + y + ", h: z}",
		"{rename: {" + joined(190, ", ", func(i string) string { return "k" + i + ": l" + i }) + "}}": "{" + strings.ReplaceAll(y, "k", "l") + ", h: z}",
	} {
		(trial{script(fields, lens), view, "{" + x + ", h: &h [*h]}"}).laws(t)
	}
	item := func(text string) func(string) string {
		return func(i string) string { return "{k: k" + i + text + "}" }
	}
	l := script("{keyed: {record: {k: str, v?: any}}, by: k}", "{keyed: {project: {keep: [k]}}}")
	(trial{l, "[" + joined(1365, ", ", item("")) + "]", "[" + joined(1365, ", ", item(", v: x")) + "]"}).laws(t)
	l = script("{record: {}, rest: {union: [int, {record: {v: any}}]}}", "{filter: ['{map']}")
	(trial{l, "{" + joined(1300, ", ", entry("{v: x}")) + "}", "{" + joined(1300, ", ", entry("{v: x}")) + ", i: 1}"}).laws(t)
}

// R1: leaves each of which reaches many others, and is changed.
func TestChains(t *testing.T) {
	of := "{record: {a: {list: any}, b?: any}}"
	l := script(of, "{project: {keep: [a]}}")
	in := func(a, b string) string { return "{a: " + a + ", b: " + b + "}" }
	same, other := "{a: "+links(1000, "x")+"}", "{a: "+links(1000, "y")+"}"
	for _, b := range []string{"1", "[*999]", "[[*7], *500]"} {
		(trial{l, same, in(links(1000, "x"), b)}).laws(t)
	}
	(trial{l, other, in(links(1000, "x"), "[*50]")}).laws(t)
	// What the view had beside one another stands within one another alone.
	if _, put, _ := (trial{l, other, in(links(1000, "x"), "[*500]")}).each(t); put.Part != run.Result || put.Errno != api.ErrDeep {
		t.Errorf("%+v", put)
	}
}
