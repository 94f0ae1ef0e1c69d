// Package toil does what plans ask for, task by task. Since nothing bounds how deep plans
// and values are, what is still to do stands in a list, and no calls stand within one another.
package toil

import (
	"slices"

	"stanhope/api"
	"stanhope/check"
	"stanhope/lens"
	"stanhope/value"
)

// Task is a plan, and where the value stands that is to give way to what the plan makes of
// it. Without a plan it asks that the value there has no more nodes than it may.
type Task struct {
	Plan *check.Plan
	At   *value.Value
}

// Do is what a plan makes of a value. step does of a task what can be done at once, and
// answers the tasks that are left of it, in order; false, if the value is none for the plan.
func Do(p check.Plan, v value.Value, step func(Task) ([]Task, bool)) (value.Value, api.Errno) {
	todo := []Task{{&p, &v}}
	for len(todo) > 0 {
		last := len(todo) - 1
		next := todo[last]
		todo = todo[:last]
		if next.Plan == nil {
			if next.At.Size() > api.MaxNodes {
				return value.Value{}, api.ErrNodes
			}
			continue
		}
		left, ok := step(next)
		if !ok {
			return value.Value{}, api.ErrType
		}
		todo = append(todo, left...)
		slices.Reverse(todo[last:])
	}
	return v, api.OK
}

// Kid is the plan of the Kid with a number; nil, if there is none.
func (t Task) Kid(i int) *check.Plan {
	if i < 0 || i >= len(t.Plan.Kids) {
		return nil
	}
	return &t.Plan.Kids[i]
}

// Pass leaves it to another plan; false, if there is none.
func (t Task) Pass(p *check.Plan) ([]Task, bool) { return []Task{{p, t.At}}, p != nil }

// Link leaves it to a Compose's Kid with a number, and asks how many nodes there are then.
func (t Task) Link(i int) []Task { return []Task{{t.Kid(i), t.At}, {nil, t.At}} }

// Spread leaves it to other plans as views and new sources alike do: a Use to the one of
// its name; a Map, an Items, a Keyed, an On to those of its Kids, part by part. It is
// false, if there is no such name, or there are no parts.
func (t Task) Spread(e check.Env) ([]Task, bool) {
	part := func(string) *check.Plan { return t.Kid(0) }
	switch t.Plan.Lens.Kind {
	case lens.Use:
		p, ok := e.Find(t.Plan.Lens.Name)
		return []Task{{&p, t.At}}, ok
	case lens.On:
		part = t.behind
		fallthrough
	case lens.Map, lens.Items, lens.Keyed:
		return t.parts(part)
	}
	return nil, false
}

// behind is the plan of the Kid by a key; nil, if there is none.
func (t Task) behind(key string) *check.Plan {
	i, ok := slices.BinarySearch(t.Plan.Lens.Keys, key)
	if !ok {
		return nil
	}
	return t.Kid(i)
}

// parts leaves a collection to plans, part by part; false, if there is no collection. plan
// tells the one for what stands behind a key (in a sequence, that has none, behind an empty
// one); nil, if that stays as it is.
func (t Task) parts(plan func(key string) *check.Plan) ([]Task, bool) {
	// What was handed in isn't written into: what gives way stands in a list of its own.
	v := value.Value{Kind: t.At.Kind, Tag: t.At.Tag, Kids: slices.Clone(t.At.Kids)}
	switch v.Kind {
	case value.Map:
		v.Keys = t.At.Keys
	case value.Seq:
	default:
		return nil, false
	}
	*t.At = v
	var left []Task
	for i := range len(v.Kids) {
		key := ""
		if i < len(v.Keys) {
			key = v.Keys[i]
		}
		if p := plan(key); p != nil {
			left = append(left, Task{p, &v.Kids[i]})
		}
	}
	return left, true
}
