// Package toil does what plans ask for, task by task. Since nothing bounds how deep plans
// and values are, what is still to do stands in a list, and no calls stand within one another.
package toil

import (
	"slices"

	"stanhope/api"
	"stanhope/check"
	"stanhope/lens"
	"stanhope/value"
)

// Task is a plan, where the value stands that is to give way to what the plan makes of it,
// and into what that is put; nil, if it is put into nothing. Without a plan it asks that the
// value there has no more nodes than it may.
type Task struct {
	Plan *check.Plan
	At   *value.Value
	Into *value.Value
}

// Do does a task. step does of one what can be done at once, and answers the tasks that are
// left of it, in order; or what is wrong.
func Do(t Task, step func(Task) ([]Task, api.Errno)) (value.Value, api.Errno) {
	todo := []Task{t}
	for len(todo) > 0 {
		last := len(todo) - 1
		next := todo[last]
		todo = todo[:last]
		if next.Plan == nil {
			if next.At.Size() > api.MaxNodes {
				return value.Value{}, api.ErrNodes
			}
			continue
		}
		left, n := step(next)
		if n != api.OK {
			return value.Value{}, n
		}
		todo = append(todo, left...)
		slices.Reverse(todo[last:])
	}
	return *t.At, api.OK
}

// Give lays what was made in its place, and leaves nothing; ErrType, if nothing was made.
func (t Task) Give(v value.Value, ok bool) ([]Task, api.Errno) {
	if !ok {
		return nil, api.ErrType
	}
	*t.At = v
	return nil, api.OK
}

// Kid is the plan of the Kid with a number; nil, if there is none.
func (t Task) Kid(i int) *check.Plan {
	if i < 0 || i >= len(t.Plan.Kids) {
		return nil
	}
	return &t.Plan.Kids[i]
}

// Pass leaves it to another plan; ErrType, if there is none.
func (t Task) Pass(p *check.Plan) ([]Task, api.Errno) {
	if p == nil {
		return nil, api.ErrType
	}
	return []Task{{p, t.At, t.Into}}, api.OK
}

// Link leaves it to one of a Compose's plans, and asks how many nodes there are then.
func (t Task) Link(p *check.Plan, into *value.Value) []Task {
	return []Task{{p, t.At, into}, {nil, t.At, nil}}
}

// Alone tells that parts are put into nothing.
func Alone(int, string) *value.Value { return nil }

// Spread leaves it to other plans as views, new sources and what is put into others alike
// do: a Use to the one of its name; a Map, an Items, a Keyed, an On to those of its Kids,
// part by part. into tells, by a part's number and its key (in a sequence, that has none,
// an empty one), into what it is put. It is ErrType, if there is no such name, or there are
// no parts.
func (t Task) Spread(e check.Env, into func(i int, key string) *value.Value) ([]Task, api.Errno) {
	part := func(string) *check.Plan { return t.Kid(0) }
	switch t.Plan.Lens.Kind {
	case lens.Use:
		p, ok := e.Find(t.Plan.Lens.Name)
		if !ok {
			return nil, api.ErrType
		}
		return t.Pass(&p)
	case lens.On:
		part = t.behind
		fallthrough
	case lens.Map, lens.Items, lens.Keyed:
		return t.parts(part, into)
	}
	return nil, api.ErrType
}

// behind is the plan of the Kid by a key; nil, if there is none.
func (t Task) behind(key string) *check.Plan {
	i, ok := slices.BinarySearch(t.Plan.Lens.Keys, key)
	if !ok {
		return nil
	}
	return t.Kid(i)
}

// parts leaves a collection to plans, part by part; ErrType, if there is no collection. plan
// tells the one for what stands behind a key; nil, if that stays as it is.
func (t Task) parts(plan func(key string) *check.Plan, into func(i int, key string) *value.Value) ([]Task, api.Errno) {
	// What was handed in isn't written into: what gives way stands in a list of its own.
	v := value.Value{Kind: t.At.Kind, Tag: t.At.Tag, Kids: slices.Clone(t.At.Kids)}
	switch v.Kind {
	case value.Map:
		v.Keys = t.At.Keys
	case value.Seq:
	default:
		return nil, api.ErrType
	}
	*t.At = v
	var left []Task
	for i := range len(v.Kids) {
		key := ""
		if i < len(v.Keys) {
			key = v.Keys[i]
		}
		if p := plan(key); p != nil {
			left = append(left, Task{p, &v.Kids[i], into(i, key)})
		}
	}
	return left, api.OK
}
