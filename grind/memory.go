package grind

import (
	"slices"

	"stanhope/carve"
	"stanhope/lens"
	"stanhope/spell"
	"stanhope/value"
)

// Roomy is a lens all lists of which have room behind their ends, in which something stands.
func Roomy(l lens.Lens) lens.Lens {
	l.Keys, l.Words, l.Drops = spell.Room(l.Keys, "behind"), spell.Room(l.Words, "behind"), spell.Room(l.Drops, "behind")
	l.Kids = spell.Room(l.Kids, lens.Lens{Kind: lens.Use, At: 99, Name: "behind"})
	for i, k := range l.Kids {
		l.Kids[i] = Roomy(k)
	}
	l.Values = spell.Room(l.Values, carve.Str("behind"))
	for i, v := range l.Values {
		l.Values[i] = carve.Roomy(v)
	}
	return l
}

// Whole is a lens anew, with the room behind the ends of its lists.
func Whole(l lens.Lens) lens.Lens {
	l.Keys, l.Words, l.Drops = whole(l.Keys), whole(l.Words), whole(l.Drops)
	l.Kids = whole(l.Kids)
	for i, k := range l.Kids {
		l.Kids[i] = Whole(k)
	}
	l.Values = whole(l.Values)
	for i, v := range l.Values {
		l.Values[i] = carve.Whole(v)
	}
	return l
}

// whole is a list anew, with the room behind its end.
func whole[T any](l []T) []T { return slices.Clone(l[:cap(l)]) }

// The kinds of which a field plays a part.
var (
	named  = []lens.Kind{lens.Hoist, lens.Plunge, lens.Lift, lens.Sink, lens.Fill, lens.Use}
	keyed  = []lens.Kind{lens.Project, lens.Rename, lens.Sink, lens.On, lens.Translate}
	worded = []lens.Kind{lens.Rename, lens.Filter, lens.Translate}
	drops  = []lens.Kind{lens.Project}
	around = []lens.Kind{lens.Compose, lens.Map, lens.Items, lens.Keyed, lens.On, lens.Union}
	valued = []lens.Kind{lens.Const, lens.Project, lens.Fill}
)

// Noisy is a lens with something in all that plays no part.
func Noisy(l lens.Lens) lens.Lens {
	noise := []string{"noise", "k", "b", "a", "a", "\xff"}
	n := lens.Lens{Kind: l.Kind, At: l.At, Name: "k", Keys: noise, Words: noise, Drops: noise}
	n.Kids = []lens.Lens{{Kind: lens.Use, At: -7, Name: "noise"}, {At: -8}}
	n.Values = []value.Value{carve.Leaf(-7), {}}
	if slices.Contains(named, l.Kind) {
		n.Name = l.Name
	}
	if slices.Contains(keyed, l.Kind) {
		n.Keys = l.Keys
	}
	if slices.Contains(worded, l.Kind) {
		n.Words = l.Words
	}
	if slices.Contains(drops, l.Kind) {
		n.Drops = l.Drops
	}
	if slices.Contains(around, l.Kind) {
		n.Kids = nil
		for _, k := range l.Kids {
			n.Kids = append(n.Kids, Noisy(k))
		}
	}
	if slices.Contains(valued, l.Kind) {
		n.Values = nil
		for _, v := range l.Values {
			n.Values = append(n.Values, carve.Noisy(v))
		}
	}
	return n
}

// NoisyDefs are definitions whose lenses are noisy.
func NoisyDefs(d lens.Defs) lens.Defs {
	d.Lenses = slices.Clone(d.Lenses)
	for i, x := range d.Lenses {
		d.Lenses[i].Lens = Noisy(x.Lens)
	}
	return d
}
