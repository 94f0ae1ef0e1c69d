package check

import (
	"slices"

	"stanhope/api"
	"stanhope/lens"
	"stanhope/resolve"
	"stanhope/typ"
)

// Program are the plans of definitions.
func Program(d lens.Defs) ([]Plan, api.Fault) {
	if f := told(d); f.Bad() {
		return nil, f
	}
	var plans []Plan
	for _, x := range d.Lenses {
		p, f := Check(d, x.Lens, x.Source)
		if f.Bad() {
			return nil, f
		}
		if !Fit(d.Types, p.View, x.View) {
			return nil, api.Fault{Errno: api.ErrLens, At: x.Lens.At}
		}
		plans = append(plans, p)
	}
	return plans, api.Fault{}
}

// told is what is wrong with definitions, whatever their lenses do.
func told(d lens.Defs) api.Fault {
	if f := d.Types.Check(); f.Bad() {
		return f
	}
	if len(d.Lenses) != len(d.Names) {
		return api.Fault{Errno: api.ErrForm}
	}
	for i := range d.Names {
		if f := one(d, i); f.Bad() {
			return f
		}
	}
	return d.Turns()
}

// one is what is wrong with a definition for itself.
func one(d lens.Defs, i int) api.Fault {
	name, x := d.Names[i], d.Lenses[i]
	// An own tag is a name behind its sign.
	if !resolve.Own("!"+name) || i > 0 && name <= d.Names[i-1] {
		return api.Fault{Errno: api.ErrForm, At: x.Lens.At}
	}
	for _, t := range [...]typ.Type{x.Source, x.View} {
		if f := typ.Check(d.Types, t); f.Bad() {
			return f
		}
	}
	return x.Lens.Check()
}

// Env is definitions, with their plans.
type Env struct {
	Defs  lens.Defs
	Plans []Plan
}

// Ready is definitions with their plans.
func Ready(d lens.Defs) (Env, api.Fault) {
	plans, f := Program(d)
	if f.Bad() {
		return Env{}, f
	}
	d.Types = typ.Defs{Names: slices.Clone(d.Types.Names), Types: slices.Clone(d.Types.Types)}
	d.Names, d.Lenses = slices.Clone(d.Names), slices.Clone(d.Lenses)
	return Env{Defs: d, Plans: plans}, api.Fault{}
}

// Find is a name's plan.
func (e Env) Find(name string) (Plan, bool) {
	i, ok := slices.BinarySearch(e.Defs.Names, name)
	if !ok {
		// One that was made by hand may have its names in any order.
		i = slices.Index(e.Defs.Names, name)
	}
	if i < 0 || i >= len(e.Plans) {
		return Plan{}, false
	}
	return e.Plans[i], true
}
