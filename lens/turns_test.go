package lens_test

import (
	"strings"
	"testing"

	"stanhope/api"
	"stanhope/grind"
	"stanhope/lens"
)

// told is a fault, and the place at which it is marked in a text by ^.
func told(s string, f api.Fault) string {
	if !f.Bad() {
		return s
	}
	return f.Word() + " at " + s[:f.At] + "^" + s[f.At:]
}

// faults are errors, and texts of definitions in each of which the place at which it is told is marked by ^; there is none, if nothing is wrong.
type faults []struct{ word, text string }

// hold holds what Turns says of the definitions that are written so.
func (l faults) hold(t *testing.T) {
	t.Helper()
	for _, c := range l {
		s, want := strings.Replace(c.text, "^", "", 1), c.text
		if c.word != "" {
			want = c.word + " at " + c.text
		}
		for _, d := range []lens.Defs{grind.Defs(s), grind.NoisyDefs(grind.Defs(s))} {
			if got := told(s, d.Turns()); got != want {
				t.Errorf("%s, not %s", got, want)
			}
		}
	}
}

// P17.2: names that aren't defined.
func TestNames(t *testing.T) {
	faults{
		{"", "{}"},
		{"", "{f: id}"},
		{"", "{f: {use: g}, g: id}"},
		{"", "{f: id, g: {use: f}}"},
		{"", "{f: {compose: [{use: g}, {use: h}]}, g: {use: h}, h: {union: [id, copy]}}"},
		{"", "{'': id, a: {use: ''}, b: {use: a}}"},
		{"name", "{f: ^{use: g}}"},
		{"name", "{f: ^{use: ''}}"},
		{"name", "{f: ^{use: F}}"},
		{"name", "{f: ^{use: ff}}"},
		{"name", "{ff: ^{use: f}}"},
		{"name", "{f: {use: g}, g: ^{use: h}}"},
		{"name", "{f: id, g: {use: f}, h: ^{use: i}}"},
		{"name", "{f: {map: ^{use: g}}}"},
		{"name", "{f: {on: {a: id, b: {items: ^{use: g}}}}}"},
		{"name", "{f: {compose: [id, {union: [copy, ^{use: x}, {use: y}]}]}}"},
		{"name", "{f: {compose: [{union: [copy, {use: g}]}, ^{use: y}]}, g: id}"},
	}.hold(t)
}

// P17.2: uses that turn and aren't low.
func TestLoop(t *testing.T) {
	faults{
		{"loop", "{f: ^{use: f}}"},
		{"loop", "{'': ^{use: ''}}"},
		{"loop", "{e: id, f: ^{use: f}, g: id}"},
		{"loop", "{f: {compose: [^{use: f}]}}"},
		{"loop", "{f: {compose: [id, id, ^{use: f}, id]}}"},
		{"loop", "{f: {compose: [copy, ^{use: f}]}}"},
		{"loop", "{f: {union: [id, ^{use: f}]}}"},
		{"loop", "{f: {union: [id, {compose: [{union: [{compose: [^{use: f}]}, id]}]}]}}"},
		{"loop", "{f: ^{use: g}, g: {use: f}}"},
		{"loop", "{f: ^{use: g}, g: {use: h}, h: {use: i}, i: {use: f}}"},
		{"loop", "{f: ^{use: i}, g: {use: f}, h: {use: g}, i: {use: h}}"},
		{"loop", "{f: ^{use: g}, g: {union: [id, {compose: [copy, {on: {a: {use: f}}}]}]}}"},
		// What leads to a loop needn't turn.
		{"loop", "{f: {use: g}, g: ^{use: g}}"},
		{"loop", "{f: {use: g}, g: ^{use: h}, h: {use: g}}"},
		{"loop", "{f: {use: h}, g: ^{use: h}, h: {use: g}}"},
		{"loop", "{f: {union: [{use: g}, {use: h}]}, g: {use: h}, h: {union: [{use: i}, ^{use: j}]}, i: id, j: {use: h}}"},
		{"loop", "{a: ^{use: c}, b: {use: d}, c: {use: a}, d: {use: b}}"},
		{"loop", "{a: {use: b}, b: {use: d}, c: ^{use: e}, d: id, e: {union: [{use: b}, {use: c}]}}"},
		// One of the uses is low, the other isn't.
		{"loop", "{f: {map: {use: g}}, g: ^{use: f}}"},
		{"loop", "{f: ^{use: g}, g: {map: {use: f}}}"},
		{"loop", "{f: {map: {use: g}}, g: {items: {use: h}}, h: {keyed: {use: i}}, i: ^{use: f}}"},
		{"loop", "{f: {union: [{map: {use: f}}, ^{use: f}]}}"},
		{"loop", "{f: {union: [^{use: f}, {map: {use: f}}]}}"},
		{"loop", "{f: {map: {use: f}}, g: ^{use: g}}"},
	}.hold(t)
}

// P17.2: which uses are low.
func TestLow(t *testing.T) {
	faults{
		{"", "{f: {map: {use: f}}}"},
		{"", "{f: {items: {use: f}}}"},
		{"", "{f: {keyed: {use: f}}}"},
		{"", "{f: {on: {a: {use: f}}}}"},
		{"", "{f: {on: {a: copy, b: {use: f}, c: {use: f}}}}"},
		{"", "{f: {map: {use: g}}, g: {items: {use: f}}}"},
		{"", "{f: {map: {use: g}}, g: {map: {union: [{use: f}, {use: g}]}}}"},
		{"", "{f: {map: {map: {union: [copy, {use: f}]}}}}"},
		{"", "{f: {union: [copy, {map: {use: f}}]}}"},
		{"", "{f: {union: [{on: {a: {use: f}, b: {use: f}}}, {items: {use: f}}]}}"},
		// Composes of which all other Kids are Id or Rename.
		{"", "{f: {compose: [{map: {use: f}}]}}"},
		{"", "{f: {map: {compose: [{use: f}]}}}"},
		{"", "{f: {compose: [id, {map: {use: f}}]}}"},
		{"", "{f: {compose: [{map: {use: f}}, id]}}"},
		{"", "{f: {map: {compose: [id, {use: f}, {rename: {a: b}}, id]}}}"},
		{"", "{f: {compose: [{rename: {a: b}}, {on: {b: {use: f}}}, {rename: {b: a}}]}}"},
		{"", "{f: {compose: [{rename: {}}, {on: {b: {use: f}}}]}}"},
		{"", "{f: {compose: [id, {items: {compose: [{rename: {a: b}}, {use: f}]}}]}}"},
		{"", "{f: {compose: [{compose: [id, {map: {use: f}}]}, id]}}"},
		{"", "{f: {compose: [{union: [copy, {map: {use: f}}]}, id]}}"},
		{"", "{f: {compose: [{map: {union: [{use: f}, {compose: [copy, copy]}]}}, id]}}"},
		// Others stand beside the way.
		{"", "{f: {union: [{compose: [copy, {hoist: a}]}, {map: {use: f}}]}}"},
		{"", "{f: {on: {a: {compose: [copy, copy]}, b: {use: f}}}}"},
		{"", "{f: {map: {union: [{use: f}, {compose: [copy, copy]}, {use: f}]}}}"},
		// Composes that have one more, behind it or ahead of it.
		{"loop", "{f: {compose: [copy, {map: ^{use: f}}]}}"},
		{"loop", "{f: {compose: [{map: ^{use: f}}, copy]}}"},
		{"loop", "{f: {compose: [id, {map: ^{use: f}}, id, {rename: {a: b}}, {plunge: k}]}}"},
		{"loop", "{f: {compose: [{hoist: k}, {rename: {a: b}}, {map: ^{use: f}}, id]}}"},
		{"loop", "{f: {map: {compose: [^{use: f}, copy]}}}"},
		{"loop", "{f: {map: {compose: [copy, ^{use: f}]}}}"},
		{"loop", "{f: {map: {compose: [^{use: f}, {use: f}]}}}"},
		{"loop", "{f: {compose: [{map: ^{use: f}}, {map: {use: f}}]}}"},
		{"loop", "{f: {compose: [{map: ^{use: f}}, {map: id}]}}"},
		{"loop", "{f: {compose: [{map: ^{use: f}}, {compose: [id]}]}}"},
		{"loop", "{f: {compose: [{map: ^{use: f}}, {union: [id, id]}]}}"},
		{"loop", "{f: {compose: [{map: ^{use: f}}, {use: g}]}, g: id}"},
		{"loop", "{f: {compose: [{map: ^{use: f}}, {translate: {a: b}}]}}"},
		{"loop", "{f: {compose: [{map: {union: [{map: copy}, {items: ^{use: f}}]}}, id, {filter: [a]}]}}"},
		{"loop", "{f: {compose: [id, {items: {compose: [{rename: {a: b}}, ^{use: f}, {lift: a}]}}]}}"},
		{"loop", "{f: {compose: [copy, {items: {compose: [{rename: {a: b}}, ^{use: f}]}}]}}"},
		{"loop", "{f: {map: {items: {compose: [{keyed: {on: {a: ^{use: f}}}}, {fill: {key: a, value: x}}]}}}}"},
		{"loop", "{f: {compose: [{compose: [id, {map: ^{use: f}}]}, copy]}}"},
		{"loop", "{f: {compose: [{compose: [copy, {map: ^{use: f}}]}, id]}}"},
		// What doesn't turn may stand anywhere.
		{"", "{f: {compose: [{use: g}, {use: g}]}, g: {map: {use: h}}, h: {compose: [copy, {use: i}]}, i: id}"},
		{"", "{f: {compose: [{use: g}, {map: {use: g}}]}, g: {map: {use: g}}}"},
		{"loop", "{f: {compose: [{use: g}, {map: ^{use: f}}]}, g: {map: {use: g}}}"},
		// None of these stand around it.
		{"loop", "{f: {union: [{map: id}, ^{use: f}, {map: id}]}}"},
		{"loop", "{f: {compose: [id, ^{use: f}]}}"},
	}.hold(t)
}

// P17.2: which of several is the first: definition by definition, use by use.
func TestUses(t *testing.T) {
	faults{
		{"loop", "{f: {compose: [^{use: f}, {use: x}]}}"},
		{"name", "{f: {compose: [^{use: x}, {use: f}]}}"},
		{"name", "{f: {union: [{use: g}, ^{use: x}]}, g: {use: g}}"},
		{"loop", "{f: ^{use: f}, g: {use: x}}"},
		{"loop", "{f: {union: [{map: {use: f}}, {union: [id, ^{use: f}]}, {use: x}]}}"},
		{"name", "{f: {on: {a: {items: {use: f}}, b: ^{use: x}, c: {use: f}}}, g: {use: g}}"},
		{"loop", "{f: {union: [{compose: [{union: [id, ^{use: f}]}, {use: x}]}, {use: f}]}}"},
		{"name", "{f: {map: {use: g}}, g: {compose: [{use: h}, ^{use: x}, {use: f}]}, h: {use: x}}"},
	}.hold(t)
}
