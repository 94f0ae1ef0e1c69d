package grind

import (
	"slices"
	"strconv"

	"stanhope/check"
	"stanhope/lens"
	"stanhope/spell"
	"stanhope/typ"
)

// Env are definitions of a text (see Program), made ready.
func Env(s string) check.Env {
	e, f := check.Ready(Program(s))
	if f.Bad() {
		panic("grind: " + s + ": " + f.Word() + " at " + strconv.Itoa(f.At))
	}
	return e
}

// Plan is the plan of a lens's text (see Lens) by the text of a type of sources.
func Plan(d lens.Defs, l, source string) check.Plan {
	return Made(d, Lens(l), spell.Type(source))
}

// Made is the plan of a lens by a type of sources.
func Made(d lens.Defs, l lens.Lens, source typ.Type) check.Plan {
	if f := typ.Check(d.Types, source); f.Bad() {
		panic("grind: " + typ.Show(source) + ": " + f.Word() + " at " + strconv.Itoa(f.At))
	}
	p, f := check.Check(d, l, source)
	if f.Bad() {
		panic("grind: " + f.Word() + " at " + strconv.Itoa(f.At) + " by " + typ.Show(source))
	}
	return p
}

// NoisyProgram are definitions with something in all that plays no part.
func NoisyProgram(d lens.Defs) lens.Defs {
	d = NoisyDefs(d)
	d.Types.Types = slices.Clone(d.Types.Types)
	for i, t := range d.Types.Types {
		d.Types.Types[i] = spell.Noisy(t)
	}
	for i, x := range d.Lenses {
		d.Lenses[i].Source, d.Lenses[i].View = spell.Noisy(x.Source), spell.Noisy(x.View)
	}
	return d
}

// RoomyProgram are definitions all lists of which have room behind their ends, in which something stands.
func RoomyProgram(d lens.Defs) lens.Defs {
	d.Types = typ.Defs{Names: spell.Room(d.Types.Names, "behind"), Types: spell.Room(d.Types.Types, typ.Type{Kind: typ.Any})}
	for i, x := range d.Types.Types {
		d.Types.Types[i] = spell.Roomy(x)
	}
	d.Names = spell.Room(d.Names, "behind")
	d.Lenses = spell.Room(d.Lenses, lens.Def{Lens: lens.Lens{Kind: lens.Use, At: 99, Name: "behind"}})
	for i, x := range d.Lenses {
		d.Lenses[i] = lens.Def{Source: spell.Roomy(x.Source), View: spell.Roomy(x.View), Lens: Roomy(x.Lens)}
	}
	return d
}

// WholeProgram are definitions anew, with the room behind the ends of their lists.
func WholeProgram(d lens.Defs) lens.Defs {
	d.Types = typ.Defs{Names: whole(d.Types.Names), Types: whole(d.Types.Types)}
	for i, x := range d.Types.Types {
		d.Types.Types[i] = spell.Whole(x)
	}
	d.Names, d.Lenses = whole(d.Names), whole(d.Lenses)
	for i, x := range d.Lenses {
		d.Lenses[i] = lens.Def{Source: spell.Whole(x.Source), View: spell.Whole(x.View), Lens: Whole(x.Lens)}
	}
	return d
}

// WholePlan is a plan anew, with the room behind the ends of its lists.
func WholePlan(p check.Plan) check.Plan {
	p = check.Plan{Lens: Whole(p.Lens), Source: spell.Whole(p.Source), View: spell.Whole(p.View), Kids: whole(p.Kids)}
	for i, k := range p.Kids {
		p.Kids[i] = WholePlan(k)
	}
	return p
}

// WholeEnv are definitions and their plans anew, with the room behind the ends of their lists.
func WholeEnv(e check.Env) check.Env {
	e = check.Env{Defs: WholeProgram(e.Defs), Plans: whole(e.Plans)}
	for i, p := range e.Plans {
		e.Plans[i] = WholePlan(p)
	}
	return e
}
