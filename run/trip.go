package run

import (
	"errors"

	"stanhope/align"
	"stanhope/api"
	"stanhope/create"
	"stanhope/emit"
	"stanhope/get"
	"stanhope/graph"
	"stanhope/load"
	"stanhope/program"
	"stanhope/put"
	"stanhope/value"
)

// document is a value, and the graph whose nodes its leaves are.
type document struct {
	value value.Value
	graph graph.Graph
}

// trip is what is at hand on the way from texts to a text.
type trip struct {
	program.Loaded
	source, view document
	pool         align.Pool // of the source's graph and the view's
	made         document   // what is made so far
	text         string
}

// follow takes steps, one behind the other, up to the first that meets an error.
func follow(steps ...func() error) Fault {
	for _, step := range steps {
		if err := step(); err != nil {
			return told(err)
		}
	}
	return Fault{}
}

// told is what an error tells: a part's fault, or else a number of the result, which has no place.
func told(err error) Fault {
	var f Fault
	var n api.Errno
	switch {
	case errors.As(err, &f):
		return f
	case errors.As(err, &n):
		return Fault{Result, api.Fault{Errno: n}}
	}
	return Fault{Result, api.Fault{Errno: api.ErrOther}}
}

// wrong is what is wrong with a part; nil, if nothing is.
func wrong(p Part, f api.Fault) error {
	if f.Bad() {
		return Fault{p, f}
	}
	return nil
}

// number is a number as an error; nil, if nothing is wrong.
func number(n api.Errno) error {
	if n != api.OK {
		return n
	}
	return nil
}

// ready makes a lens ready.
func (t *trip) ready(lens string) func() error {
	return func() error {
		l, f := program.Ready(lens)
		t.Loaded = l
		return wrong(Lens, f)
	}
}

// read reads the source, or the view. Of which type it is to be the lens tells, when it is ready.
func (t *trip) read(p Part, s string) func() error {
	return func() error {
		of, to := t.Plan.Source, &t.source
		if p == View {
			of, to = t.Plan.View, &t.view
		}
		d, f := load.One(s)
		if f.Bad() {
			return wrong(p, f)
		}
		v, f := value.Parse(t.Env.Defs.Types, of, d.Graph)
		if f.Bad() {
			f.At = d.At[f.At]
		}
		*to = document{v, d.Graph}
		return wrong(p, f)
	}
}

// get gets the source's view. What was parsed is of its type, which isn't asked again.
func (t *trip) get() error {
	v, n := get.Bare(t.Env, t.Plan, t.source.value)
	t.made = document{v, t.source.graph}
	return number(n)
}

// create makes the view's new source.
func (t *trip) create() error {
	v, n := create.Bare(t.Env, t.Plan, t.view.value)
	t.made = document{v, t.view.graph}
	return number(n)
}

// align makes the pool, in which what the source's own view has, and the view has unchanged, stands once.
func (t *trip) align() error {
	own := t.made.value
	l := align.Pairs(t.Env.Defs.Types, t.Plan.View, own, t.view.value)
	p, ok := align.Make(t.source.graph, t.view.graph, l)
	t.pool = p
	if !ok {
		return api.ErrShape
	}
	return nil
}

// put puts the view into the source. The pool has the view's nodes by their own numbers.
func (t *trip) put() error {
	v, n := put.Bare(t.Env, t.Plan, t.view.value, t.pool.Move(t.source.value))
	t.made = document{value: v}
	return number(n)
}

// take takes what is needed of the pool, which may have more nodes than a graph.
func (t *trip) take() error {
	v, g, n := t.pool.Take(t.made.value)
	t.made = document{v, g}
	return number(n)
}

// write writes what is made.
func (t *trip) write() error {
	g, f := value.Weave(t.made.value, t.made.graph)
	if f.Bad() {
		return f
	}
	s, f := emit.Graph(g)
	if f.Bad() {
		return f
	}
	t.text = s
	return nil
}
