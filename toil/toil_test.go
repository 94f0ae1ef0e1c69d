package toil_test

import (
	"slices"
	"testing"

	"stanhope/api"
	"stanhope/carve"
	"stanhope/check"
	"stanhope/grind"
	"stanhope/lens"
	"stanhope/toil"
	"stanhope/value"
)

// of is the value of a text.
var of = carve.Value

// leaves are what tasks leave at a value of a text: the words of their plans, and where each stands by what stands there.
func leaves(p check.Plan, s string, left func(toil.Task) ([]toil.Task, bool)) (words, at []string, v value.Value, ok bool) {
	v = of(s)
	l, ok := left(toil.Task{Plan: &p, At: &v})
	for _, t := range l {
		word := ""
		if t.Plan != nil {
			word = check.Word(t.Plan.Lens.Kind)
		}
		words, at = append(words, word), append(at, t.At.Text)
	}
	return words, at, v, ok
}

// Tasks are done in order, each with all that is left of it ahead of the next one.
func TestDo(t *testing.T) {
	p := grind.Plan(lens.Defs{}, "{compose: [{compose: [id, {plunge: a}]}, {hoist: a}, {compose: [id]}]}", "str")
	var words []string
	v, n := toil.Do(p, of("x"), func(t toil.Task) ([]toil.Task, bool) {
		words = append(words, check.Word(t.Plan.Lens.Kind))
		var left []toil.Task
		for i := range t.Plan.Kids {
			left = append(left, t.Link(i)...)
		}
		t.At.Text += "-"
		return left, true
	})
	if n != api.OK || v.Text != "x-------" || !slices.Equal(words, []string{"compose", "compose", "id", "plunge", "hoist", "compose", "id"}) {
		t.Error(n, v.Text, words)
	}
}

// A step that isn't done ends it, and so do too many nodes, where they are asked for.
func TestDoErrors(t *testing.T) {
	p := grind.Plan(lens.Defs{}, "{compose: [id, id]}", "[seq str]")
	for _, c := range []struct {
		nodes, bad int // the number of the step that isn't done
		want       api.Errno
		steps      int
	}{
		{4096, 0, api.OK, 3}, {4097, 0, api.ErrNodes, 2}, {4097, 2, api.ErrType, 2}, {4096, 3, api.ErrType, 3}, {9000, 1, api.ErrType, 1},
	} {
		steps := 0
		v, n := toil.Do(p, carve.Seq(slices.Repeat([]value.Value{of("x")}, c.nodes-1)...), func(t toil.Task) ([]toil.Task, bool) {
			steps++
			if t.Plan.Lens.Kind != lens.Compose {
				return nil, steps != c.bad
			}
			return append(t.Link(0), t.Link(1)...), steps != c.bad
		})
		if n != c.want || steps != c.steps || (v.Kind == 0) != (n != api.OK) {
			t.Errorf("%d nodes: %v behind %d steps, not %v behind %d", c.nodes, n, steps, c.want, c.steps)
		}
	}
}

// Kids are told by their numbers, and no others.
func TestKid(t *testing.T) {
	p := grind.Plan(lens.Defs{}, "{union: [id, {plunge: k}]}", "(str|int)")
	v := of("x")
	task := toil.Task{Plan: &p, At: &v}
	for i := -3; i < 5; i++ {
		k := task.Kid(i)
		if (k != nil) != (i == 0 || i == 1) || k != nil && k != &p.Kids[i] {
			t.Error(i, k)
		}
		left, ok := task.Pass(k)
		if ok != (k != nil) || ok && (len(left) != 1 || left[0].Plan != k || left[0].At != &v) {
			t.Error(i, ok, left)
		}
	}
}

// Parts are left to the plans of Kids, in the value's own list.
func TestSpread(t *testing.T) {
	e := grind.Env("{lenses: {f: {source: str, view: '{map k:str}', lens: {plunge: k}}}}")
	for _, c := range []struct {
		lens, source, value string
		words, at           []string
		ok                  bool
	}{
		{"{map: {plunge: k}}", "{map *:str}", "{a: x, b: y}", []string{"plunge", "plunge"}, []string{"x", "y"}, true},
		{"{items: {plunge: k}}", "[seq str]", "!l [x, y, z]", []string{"plunge", "plunge", "plunge"}, []string{"x", "y", "z"}, true},
		{"{keyed: id}", "[seq by k {map k:str}]", "[x]", []string{"id"}, []string{"x"}, true},
		{"{on: {a: {plunge: k}, c: id}}", "{map a:str b:str c:str}", "{a: x, b: y, c: z}", []string{"plunge", "id"}, []string{"x", "z"}, true},
		{"{on: {a: {plunge: k}, c: id}}", "{map a?:str b:str c?:str}", "!m {b: y, c: z}", []string{"id"}, []string{"z"}, true},
		{"{items: id}", "[seq str]", "[]", nil, nil, true},
		{"{map: id}", "{map *:str}", "{}", nil, nil, true},
		{"{use: f}", "str", "x", []string{"plunge"}, []string{"x"}, true},
		{"{items: id}", "[seq str]", "x", nil, nil, false},
		{"{on: {a: id}}", "{map a:str}", "!leaf 0", nil, nil, false},
		{"id", "str", "[x]", nil, nil, false},
	} {
		p := grind.Plan(e.Defs, c.lens, c.source)
		words, at, v, ok := leaves(p, c.value, func(t toil.Task) ([]toil.Task, bool) { return t.Spread(e) })
		if ok != c.ok || !slices.Equal(words, c.words) || !slices.Equal(at, c.at) || !carve.Equal(v, of(c.value)) {
			t.Errorf("%s of %s: %v, %q at %q, %+v", c.lens, c.value, ok, words, at, v)
		}
	}
	p := grind.Plan(e.Defs, "{use: f}", "str")
	if _, _, _, ok := leaves(p, "x", func(t toil.Task) ([]toil.Task, bool) { return t.Spread(check.Env{}) }); ok {
		t.Error("a name that there isn't")
	}
	// What is written into the parts isn't written into what was handed in.
	was := carve.Noisy(of("[x, y]"))
	v := was
	q := grind.Plan(e.Defs, "{items: id}", "[seq str]")
	l, _ := toil.Task{Plan: &q, At: &v}.Spread(e)
	for _, x := range l {
		*x.At = of("z")
	}
	if !carve.Equal(was, carve.Noisy(of("[x, y]"))) || !carve.Equal(v, of("[z, z]")) {
		t.Errorf("%+v, %+v", was, v)
	}
}
