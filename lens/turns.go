package lens

import (
	"slices"

	"stanhope/api"
)

// Turns is what is wrong with the definitions' uses.
func (d Defs) Turns() api.Fault {
	rings := d.rings()
	for i := range d.Lenses {
		for s := range d.Lenses[i].Lens.each() {
			if s.of.Kind != Use {
				continue
			}
			to, ok := d.number(s.of.Name)
			switch {
			case !ok:
				return api.Fault{Errno: api.ErrName, At: s.of.At}
			case rings[to] == rings[i] && !s.low():
				return api.Fault{Errno: api.ErrLoop, At: s.of.At}
			}
		}
	}
	return api.Fault{}
}

// rings are numbers, one for each definition: two definitions have the same just if
// each leads to the other one, so that a use turns just if what it names has the
// number of the definition in which it stands.
func (d Defs) rings() []int {
	to, from := d.ways()
	var order []int
	forth := walk{ways: to, met: make(map[int]struct{})}
	for i := range to {
		order = append(order, forth.from(i)...)
	}
	// Of those that weren't reached backwards yet, the one that was left last leads to
	// all that lead to it: what is reached from it is its ring (Kosaraju's algorithm).
	rings := make([]int, len(to))
	back := walk{ways: from, met: make(map[int]struct{})}
	for _, i := range slices.Backward(order) {
		for _, k := range back.from(i) {
			rings[k] = i
		}
	}
	return rings
}

// ways are of each definition those that its lens uses, and those whose lenses use it.
func (d Defs) ways() (to, from [][]int) {
	to, from = make([][]int, len(d.Lenses)), make([][]int, len(d.Lenses))
	for i, x := range d.Lenses {
		for _, name := range x.Lens.Uses() {
			if k, ok := d.number(name); ok {
				to[i] = append(to[i], k)
				from[k] = append(from[k], i)
			}
		}
	}
	return to, from
}

// walk is a way through definitions.
type walk struct {
	ways [][]int
	met  map[int]struct{}
}

// stop is a definition to be met, or to be left, when all to which its ways lead was met.
type stop struct {
	of    int
	leave bool
}

// from goes on from a definition, and answers what is reached from it that wasn't met
// ahead, in the order in which it is left.
func (w *walk) from(i int) []int {
	var left []int
	todo := []stop{{of: i}}
	for len(todo) > 0 {
		last := len(todo) - 1
		s := todo[last]
		todo = todo[:last]
		if s.leave {
			left = append(left, s.of)
			continue
		}
		if _, ok := w.met[s.of]; ok {
			continue
		}
		w.met[s.of] = struct{}{}
		todo = append(todo, stop{s.of, true})
		for _, k := range w.ways[s.of] {
			todo = append(todo, stop{of: k})
		}
	}
	return left
}
