package check

import (
	"slices"

	"stanhope/api"
	"stanhope/fault"
	"stanhope/lens"
	"stanhope/typ"
)

// seat is a lens that is being gone through.
type seat struct {
	plan Plan     // the Kids' plans are there as far as they are made
	from typ.Type // the Source, resolved
}

// walk is a way through a lens and all below it. Since nothing bounds how deep a lens
// is, the lenses around the one that is looked at stand in a list.
type walk struct {
	defs lens.Defs
	open []seat // the outermost first
}

// plan is a lens's plan, or the way to what is wrong.
func (w *walk) plan(l lens.Lens, s typ.Type) (Plan, error) {
	var done Plan
	err := w.enter(l, s)
	for err == nil && len(w.open) > 0 {
		x := &w.open[len(w.open)-1]
		if i := len(x.plan.Kids); i < len(x.kids()) {
			err = w.enter(x.kids()[i], x.source(i))
		} else {
			done, err = w.leave(x)
		}
	}
	if err != nil {
		return Plan{}, err
	}
	return done, nil
}

// kids are the Kids of a lens that play a part.
func (x *seat) kids() []lens.Lens {
	switch x.plan.Lens.Kind {
	case lens.Compose, lens.Map, lens.Items, lens.Keyed, lens.On, lens.Union:
		return x.plan.Lens.Kids
	}
	return nil
}

// source is the type of the sources of the Kid with that number.
func (x *seat) source(i int) typ.Type {
	switch l := &x.plan.Lens; l.Kind {
	case lens.Compose:
		if i > 0 {
			return x.plan.Kids[i-1].View
		}
		return x.plan.Source
	case lens.On:
		f, _ := behind(&x.from, l.Keys[i])
		return f.Type
	}
	return x.from.Items[i]
}

// enter goes on to a lens, and answers what is wrong with it, its Kids left aside.
func (w *walk) enter(l lens.Lens, s typ.Type) error {
	x := seat{plan: Plan{Lens: l, Source: s}}
	x.from, _ = typ.Resolve(w.defs.Types, s)
	w.open = append(w.open, x)
	if l.Kind == lens.Use {
		if _, ok := w.defs.Find(l.Name); !ok {
			return w.way(api.ErrName)
		}
	}
	if !w.suits(&x) {
		return w.way(api.ErrLens)
	}
	return nil
}

// leave ends a lens, the innermost one, all Kids of which have their plans.
func (w *walk) leave(x *seat) (Plan, error) {
	view, ok := w.view(x)
	if !ok {
		return Plan{}, w.way(api.ErrLens)
	}
	done := x.plan
	done.View = view
	w.open = w.open[:len(w.open)-1]
	if n := len(w.open); n > 0 {
		around := &w.open[n-1].plan
		around.Kids = append(around.Kids, done)
	}
	return done, nil
}

// way is what is wrong with the innermost lens, under steps from the outermost one on.
func (w *walk) way(n api.Errno) error {
	var err error = api.Fault{Errno: n, At: w.open[len(w.open)-1].plan.Lens.At}
	for i := range slices.Backward(w.open) {
		l := &w.open[i].plan.Lens
		err = fault.Under(Word(l.Kind), l.At, err)
	}
	return err
}
