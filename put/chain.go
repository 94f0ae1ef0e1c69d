package put

import (
	"slices"

	"stanhope/api"
	"stanhope/check"
	"stanhope/get"
	"stanhope/lens"
	"stanhope/toil"
	"stanhope/value"
)

// chain leaves it to a Compose's links, the last one first, each with a source of its own.
func chain(e check.Env, t toil.Task) ([]toil.Task, api.Errno) {
	plans := links(t.Plan)
	sources, n := along(e, plans, *t.Into)
	if n != api.OK {
		return nil, n
	}
	var left []toil.Task
	for i, p := range slices.Backward(plans) {
		left = append(left, t.Link(p, &sources[i])...)
	}
	return left, api.OK
}

// links are the Kids of a Compose, and in the place of each that is one itself its own: else
// what it shows would be made anew for each Compose within another.
func links(p *check.Plan) []*check.Plan {
	var l []*check.Plan
	todo := []*check.Plan{p}
	for len(todo) > 0 {
		last := len(todo) - 1
		next := todo[last]
		todo = todo[:last]
		if next.Lens.Kind != lens.Compose {
			l = append(l, next)
			continue
		}
		for i := range slices.Backward(next.Kids) {
			todo = append(todo, &next.Kids[i])
		}
	}
	return l
}

// along are the sources of plans that stand one behind the other: the first one's, its view, and so on.
func along(e check.Env, plans []*check.Plan, s value.Value) ([]value.Value, api.Errno) {
	var l []value.Value
	for i := range len(plans) {
		if i > 0 {
			view, n := get.Bare(e, *plans[i-1], s)
			if n != api.OK {
				return nil, n
			}
			if view.Size() > api.MaxNodes {
				return nil, api.ErrNodes
			}
			s = view
		}
		l = append(l, s)
	}
	return l, api.OK
}
