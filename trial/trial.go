// Package trial holds what plans make of values, views or new sources, against what is
// promised of both, for the layers' tests.
package trial

import (
	"slices"
	"strconv"

	"stanhope/api"
	"stanhope/carve"
	"stanhope/check"
	"stanhope/grind"
	"stanhope/lens"
	"stanhope/typ"
	"stanhope/value"
)

// T is a test.
type T interface {
	Helper()
	Errorf(format string, args ...any)
	Fatalf(format string, args ...any)
}

// Call tells what a plan makes of a value.
type Call func(check.Env, check.Plan, value.Value) (value.Value, api.Errno)

// Way is a way along plans: to views, or back to new sources.
type Way struct {
	Run, Bare Call
	Back      bool
	Plain     func(check.Env, check.Plan, value.Value) (value.Value, bool) // a plain reading of Bare; false, if there are too many nodes
	Law       func(e check.Env, p check.Plan, v, w value.Value) string     // what isn't so, but should be, where w comes of v; empty, if there is nothing
	Passes    []lens.Kind                                                  // those that may hand on what they were handed
}

// from is the type of what a plan is handed.
func (w Way) from(p check.Plan) typ.Type {
	if w.Back {
		return p.View
	}
	return p.Source
}

// to is the type of what a plan makes.
func (w Way) to(p check.Plan) typ.Type {
	if w.Back {
		return p.Source
	}
	return p.View
}

// Made is what a plan makes of a value; it holds what is so of each.
func (w Way) Made(t T, e check.Env, p check.Plan, v value.Value) value.Value {
	t.Helper()
	x, n := w.Run(e, p, v)
	y, m := w.Bare(e, p, v)
	if n != api.OK || m != api.OK || !carve.Equal(x, y) {
		t.Fatalf("%s of %s: Run tells %v, %s, Bare %v, %s", Brief(p), Short(v), n, Short(x), m, Short(y))
	}
	if !x.May() || !value.Of(e.Defs.Types, w.to(p), x) {
		t.Fatalf("%s of %s: %s is no %s", Brief(p), Short(v), Short(x), typ.Show(w.to(p)))
	}
	if s := w.Law(e, p, v, x); s != "" {
		t.Fatalf("%s of %s: %s: %s", Brief(p), Short(v), Short(x), s)
	}
	return x
}

// Wrong holds that a plan makes nothing of a value, which is told by an error.
func (w Way) Wrong(t T, e check.Env, p check.Plan, v value.Value, want api.Errno) {
	t.Helper()
	if x, n := w.Run(e, p, v); n != want || !carve.Equal(x, value.Value{}) {
		t.Errorf("%s of %s: %v, %s, not %v", Brief(p), Short(v), n, Short(x), want)
	}
}

// Pair holds that a plan makes a view of a source, or the source of the view.
func (w Way) Pair(t T, e check.Env, p check.Plan, source, view value.Value) {
	t.Helper()
	if w.Back {
		source, view = view, source
	}
	if x := w.Made(t, e, p, source); !value.Same(x, view) {
		t.Errorf("%s of %s: %s, not %s", Brief(p), Short(source), Short(x), Short(view))
	}
}

// Hold holds what a plan makes of a value against a plain reading.
func (w Way) Hold(t T, e check.Env, p check.Plan, v value.Value) {
	t.Helper()
	want, few := w.Plain(e, p, v)
	if !few {
		w.Wrong(t, e, p, v, api.ErrNodes)
		return
	}
	x := w.Made(t, e, p, v)
	if !carve.Equal(x, want) {
		t.Fatalf("%s of %s: %s, not %s", Brief(p), Short(v), Short(x), Short(want))
	}
	if p.Lens.Kind != lens.Compose {
		return
	}
	// It is what its Kids make, one behind the other.
	kids := slices.Clone(p.Kids)
	if w.Back {
		slices.Reverse(kids)
	}
	for _, k := range kids {
		v = w.Made(t, e, k, v)
	}
	if !carve.Equal(x, v) {
		t.Fatalf("%s: %s, not %s", Brief(p), Short(x), Short(v))
	}
}

// More says whether a leaf stands in a value more often than in another one.
func More(v, other value.Value) bool {
	left := make(map[int]int)
	for _, n := range other.Leaves() {
		left[n]++
	}
	for _, n := range v.Leaves() {
		left[n]--
		if left[n] < 0 {
			return true
		}
	}
	return false
}

// Brief is a plan's text: the words of its lenses, and the types.
func Brief(p check.Plan) string {
	return cut(words(p)) + " by " + cut(typ.Show(p.Source)) + " to " + cut(typ.Show(p.View))
}

// words are the words of a plan's lenses.
func words(p check.Plan) string {
	s := check.Word(p.Lens.Kind)
	for _, k := range p.Kids {
		s += " [" + cut(words(k)) + "]"
	}
	return s
}

// Short is a value's text; of many nodes the beginning of it.
func Short(v value.Value) string { return cut(text(v)) }

// cut is a text, or the beginning of it.
func cut(s string) string {
	if len(s) > 300 {
		return s[:300] + ".."
	}
	return s
}

// text is a value's text; of more than some nodes only how many there are.
func text(v value.Value) string {
	if v.Kind == value.Leaf {
		return "*" + strconv.Itoa(v.Node)
	}
	s := "(" + v.Head() + " " + strconv.Quote(v.Text)
	if v.Size() > 50 {
		return s + " and " + strconv.Itoa(v.Size()) + " nodes)"
	}
	for i, k := range v.Kids {
		s += " "
		if i < len(v.Keys) {
			s += strconv.Quote(v.Keys[i]) + ": "
		}
		s += text(k)
	}
	return s + ")"
}

// Clean says whether nothing stands in what plays no part of a value, what is below it left aside.
func Clean(v value.Value) bool {
	switch v.Kind {
	case value.Scalar:
		return len(v.Keys) == 0 && len(v.Kids) == 0 && v.Node == 0
	case value.Seq:
		return len(v.Keys) == 0 && v.Text == "" && v.Node == 0
	case value.Map:
		return v.Text == "" && v.Node == 0
	}
	return v.Tag == "" && v.Text == "" && len(v.Keys) == 0 && len(v.Kids) == 0
}

// Program is a text of definitions, some of which lead back to themselves.
const Program = `types: {any: any, d: $any, e: '<str "a" "b">', g: '{map n:str s?:[seq $g]}', h: '{map n:<str "x"> s?:[seq $h]}', in: '{!in x:str y?:int}', k: '[seq by k $rec]', m: '{!m a:$in b?:str}', o: '{!o a:any}', rec: '{map k:str v?:int}', s: str, t: '(str|[seq $t])', u: '(str|int|[seq $s])', w: '({map k:str}|[seq $w])'}
lenses:
  big: {source: '[seq str]', view: '[seq str]', lens: {compose: [{plunge: a}, {plunge: b}, {plunge: c}, {hoist: c}, {hoist: b}, {hoist: a}]}}
  deep: {source: $g, view: $h, lens: {on: {n: {const: {view: x, default: y}}, s: {items: {use: deep}}}}}
  fill: {source: $rec, view: '{map k:str v:int}', lens: {fill: {key: v, value: 0}}}
  grow: {source: $t, view: $w, lens: {union: [{plunge: k}, {items: {use: grow}}]}}
  name: {source: $s, view: str, lens: id}
  rows: {source: $k, view: '[seq by k {map k:str v:int}]', lens: {keyed: {use: fill}}}
  twice: {source: any, view: '{map b:{map a:any}}', lens: {compose: [{plunge: a}, {plunge: b}]}}
`

// Env are the definitions, made ready.
func Env() check.Env { return grind.Env(Program) }

// Noisy are the same with something in all that plays no part.
func Noisy() check.Env {
	e, _ := check.Ready(grind.NoisyProgram(grind.Program(Program)))
	return e
}
