package toil_test

import (
	"slices"
	"strconv"
	"testing"

	"stanhope/api"
	"stanhope/carve"
	"stanhope/check"
	"stanhope/grind"
	"stanhope/lens"
	"stanhope/toil"
	"stanhope/value"
)

// of is the value of a text.
var of = carve.Value

// leaves are what tasks leave at a value of a text: the words of their plans, and where each stands by what stands there.
func leaves(p check.Plan, s string, left func(toil.Task) ([]toil.Task, api.Errno)) (words, at []string, v value.Value, n api.Errno) {
	v = of(s)
	l, n := left(toil.Task{Plan: &p, At: &v})
	for _, t := range l {
		word := ""
		if t.Plan != nil {
			word = check.Word(t.Plan.Lens.Kind)
		}
		words, at = append(words, word), append(at, t.At.Text)
	}
	return words, at, v, n
}

// Tasks are done in order, each with all that is left of it ahead of the next one.
func TestDo(t *testing.T) {
	p := grind.Plan(lens.Defs{}, "{compose: [{compose: [id, {plunge: a}]}, {hoist: a}, {compose: [id]}]}", "str")
	var words []string
	x, s := of("x"), of("s")
	v, n := toil.Do(toil.Task{Plan: &p, At: &x, Into: &s}, func(t toil.Task) ([]toil.Task, api.Errno) {
		words = append(words, check.Word(t.Plan.Lens.Kind))
		var left []toil.Task
		for i := range t.Plan.Kids {
			left = append(left, t.Link(t.Kid(i), t.Into)...)
		}
		t.At.Text += "-"
		t.Into.Text += "+"
		return left, api.OK
	})
	if n != api.OK || v.Text != "x-------" || s.Text != "s+++++++" || !slices.Equal(words, []string{"compose", "compose", "id", "plunge", "hoist", "compose", "id"}) {
		t.Error(n, v.Text, words)
	}
}

// A step that tells an error ends it, and so do too many nodes, where they are asked for.
func TestDoErrors(t *testing.T) {
	p := grind.Plan(lens.Defs{}, "{compose: [id, id]}", "[seq str]")
	for _, c := range []struct {
		nodes, bad int // the number of the step that tells an error
		want       api.Errno
		steps      int
	}{
		{4096, 0, api.OK, 3}, {4097, 0, api.ErrNodes, 2}, {4097, 2, api.ErrType, 2}, {4096, 3, api.ErrType, 3}, {9000, 1, api.ErrType, 1}, {9, 1, api.ErrNodes, 1}, {9, 2, api.ErrNone, 2},
	} {
		steps := 0
		x := carve.Seq(slices.Repeat([]value.Value{of("x")}, c.nodes-1)...)
		v, n := toil.Do(toil.Task{Plan: &p, At: &x}, func(t toil.Task) ([]toil.Task, api.Errno) {
			steps++
			if steps == c.bad {
				return nil, c.want
			}
			if t.Plan.Lens.Kind != lens.Compose {
				return nil, api.OK
			}
			return append(t.Link(t.Kid(0), nil), t.Link(t.Kid(1), nil)...), api.OK
		})
		if n != c.want || steps != c.steps || (v.Kind == 0) != (n != api.OK) {
			t.Errorf("%d nodes: %v behind %d steps, not %v behind %d", c.nodes, n, steps, c.want, c.steps)
		}
	}
}

// Kids are told by their numbers, and no others.
func TestKid(t *testing.T) {
	p := grind.Plan(lens.Defs{}, "{union: [id, {plunge: k}]}", "(str|int)")
	v, s := of("x"), of("y")
	task := toil.Task{Plan: &p, At: &v, Into: &s}
	for i := -3; i < 5; i++ {
		k := task.Kid(i)
		if (k != nil) != (i == 0 || i == 1) || k != nil && k != &p.Kids[i] {
			t.Error(i, k)
		}
		left, n := task.Pass(k)
		if k == nil && (n != api.ErrType || left != nil) || k != nil && (n != api.OK || len(left) != 1 || left[0] != toil.Task{Plan: k, At: &v, Into: &s}) {
			t.Error(i, n, left)
		}
	}
}

// What was made is laid in its place; what wasn't isn't.
func TestGive(t *testing.T) {
	v := of("x")
	task := toil.Task{At: &v}
	if left, n := task.Give(of("y"), false); n != api.ErrType || left != nil || v.Text != "x" {
		t.Error(n, left, v)
	}
	if left, n := task.Give(of("y"), true); n != api.OK || left != nil || v.Text != "y" {
		t.Error(n, left, v)
	}
}

// Parts are left to the plans of Kids, in the value's own list.
func TestSpread(t *testing.T) {
	e := grind.Env("{lenses: {f: {source: str, view: '{map k:str}', lens: {plunge: k}}}}")
	for _, c := range []struct {
		lens, source, value string
		words, at           []string
		ok                  bool
	}{
		{"{map: {plunge: k}}", "{map *:str}", "{a: x, b: y}", []string{"plunge", "plunge"}, []string{"x", "y"}, true},
		{"{items: {plunge: k}}", "[seq str]", "!l [x, y, z]", []string{"plunge", "plunge", "plunge"}, []string{"x", "y", "z"}, true},
		{"{keyed: id}", "[seq by k {map k:str}]", "[x]", []string{"id"}, []string{"x"}, true},
		{"{on: {a: {plunge: k}, c: id}}", "{map a:str b:str c:str}", "{a: x, b: y, c: z}", []string{"plunge", "id"}, []string{"x", "z"}, true},
		{"{on: {a: {plunge: k}, c: id}}", "{map a?:str b:str c?:str}", "!m {b: y, c: z}", []string{"id"}, []string{"z"}, true},
		{"{items: id}", "[seq str]", "[]", nil, nil, true},
		{"{map: id}", "{map *:str}", "{}", nil, nil, true},
		{"{use: f}", "str", "x", []string{"plunge"}, []string{"x"}, true},
		{"{items: id}", "[seq str]", "x", nil, nil, false},
		{"{on: {a: id}}", "{map a:str}", "!leaf 0", nil, nil, false},
		{"id", "str", "[x]", nil, nil, false},
	} {
		p := grind.Plan(e.Defs, c.lens, c.source)
		words, at, v, n := leaves(p, c.value, func(t toil.Task) ([]toil.Task, api.Errno) { return t.Spread(e, toil.Alone) })
		if c.ok != (n == api.OK) || !c.ok && n != api.ErrType || !slices.Equal(words, c.words) || !slices.Equal(at, c.at) || !carve.Equal(v, of(c.value)) {
			t.Errorf("%s of %s: %v, %q at %q, %+v", c.lens, c.value, n, words, at, v)
		}
	}
	p := grind.Plan(e.Defs, "{use: f}", "str")
	if _, _, _, n := leaves(p, "x", func(t toil.Task) ([]toil.Task, api.Errno) { return t.Spread(check.Env{}, toil.Alone) }); n != api.ErrType {
		t.Error("a name that there isn't", n)
	}
	// What is written into the parts isn't written into what was handed in.
	was := carve.Noisy(of("[x, y]"))
	v := was
	q := grind.Plan(e.Defs, "{items: id}", "[seq str]")
	l, _ := toil.Task{Plan: &q, At: &v}.Spread(e, toil.Alone)
	for _, x := range l {
		*x.At = of("z")
	}
	if !carve.Equal(was, carve.Noisy(of("[x, y]"))) || !carve.Equal(v, of("[z, z]")) {
		t.Errorf("%+v, %+v", was, v)
	}
}

// Into what parts are put is asked of each that is left, by its number and its key; a Use is put into the same.
func TestInto(t *testing.T) {
	e := grind.Env("{lenses: {f: {source: str, view: '{map k:str}', lens: {plunge: k}}}}")
	s := of("y")
	for _, c := range []struct{ lens, source, value, asked string }{
		{"{map: {plunge: k}}", "{map *:str}", "{a: x, b: x}", "0a 1b "},
		{"{items: {plunge: k}}", "[seq str]", "[x, x, x]", "0 1 2 "},
		{"{on: {a: id, c: id}}", "{map a:str b:str c:str}", "{a: x, b: x, c: x}", "0a 2c "},
		{"{use: f}", "str", "x", ""},
	} {
		p, v, asked := grind.Plan(e.Defs, c.lens, c.source), of(c.value), ""
		task := toil.Task{Plan: &p, At: &v, Into: &s}
		want := []*value.Value{&s}
		left, n := task.Spread(e, func(i int, key string) *value.Value {
			if asked == "" {
				want = nil
			}
			asked += strconv.Itoa(i) + key + " "
			x := of("z")
			want = append(want, &x)
			return &x
		})
		var got []*value.Value
		for _, l := range left {
			got = append(got, l.Into)
		}
		if n != api.OK || asked != c.asked || !slices.Equal(got, want) {
			t.Errorf("%s: %v, %q, %v, not %v", c.lens, n, asked, got, want)
		}
	}
}
