package typ

import (
	"slices"

	"stanhope/api"
	"stanhope/char"
	"stanhope/resolve"
)

// task is a type to be looked at: ahead of its parts, or behind them as a whole.
type task struct {
	of    *Type
	whole bool
}

// Check is what is wrong with a type.
func Check(d Defs, t Type) api.Fault {
	todo := []task{{of: &t}}
	for len(todo) > 0 {
		last := len(todo) - 1
		next := todo[last]
		todo = todo[:last]
		e := d.look(next)
		if e != api.OK {
			return api.Fault{Errno: e, At: next.of.At}
		}
		if next.whole {
			continue
		}
		todo = append(todo, task{next.of, true})
		for _, p := range slices.Backward(next.of.parts()) {
			todo = append(todo, task{of: p})
		}
	}
	return api.Fault{}
}

// look is what is wrong with a type, its parts left aside.
func (d Defs) look(t task) api.Errno {
	if t.whole {
		return d.whole(t.of)
	}
	return d.own(t.of)
}

// own is what is wrong with a type, whatever its parts are.
func (d Defs) own(t *Type) api.Errno {
	if t.Kind == Name {
		_, e := d.follow(*t)
		return e
	}
	return told(t.formed())
}

// told is ErrForm of what isn't as told.
func told(ok bool) api.Errno {
	if ok {
		return api.OK
	}
	return api.ErrForm
}

// formed says whether a type that is no Name has what its kind asks for.
func (t *Type) formed() bool {
	switch t.Kind {
	case Enum:
		if len(t.Words) == 0 || !rise(t.Words) || slices.ContainsFunc(t.Words, t.bars) {
			return false
		}
		fallthrough
	case Scalar:
		return resolve.Core(t.Tag) || resolve.Own(t.Tag)
	case Record:
		return t.collects(resolve.Map) && ordered(t.Fields) && len(t.Items) <= 1
	case Keyed:
		if !resolve.Valid(t.Name) {
			return false
		}
		fallthrough
	case List:
		return t.collects(resolve.Seq) && len(t.Items) == 1
	case Union:
		return len(t.Items) >= 2
	case Dag, Any:
		return true
	}
	return false
}

// bars says whether a word is no content of the Tag.
func (t *Type) bars(word string) bool { return !resolve.Right(t.Tag, word) }

// collects says whether the Tag is an own one, or the one of such collections.
func (t *Type) collects(tag string) bool { return t.Tag == tag || resolve.Own(t.Tag) }

// rise says whether texts rise.
func rise(l []string) bool {
	for i := range l {
		if i > 0 && l[i] <= l[i-1] {
			return false
		}
	}
	return true
}

// ordered says whether the keys of fields may be, and rise.
func ordered(l []Field) bool {
	var keys []string
	for _, f := range l {
		if len(f.Key) > api.MaxScalar || !resolve.Valid(f.Key) {
			return false
		}
		keys = append(keys, f.Key)
	}
	return rise(keys)
}

// whole is what is wrong with a type with which, and with whose parts, nothing else is wrong.
func (d Defs) whole(t *Type) api.Errno {
	switch t.Kind {
	case Keyed:
		return told(d.keys(t.Items[0], t.Name))
	case Union:
		return d.apart(t.Items)
	}
	return api.OK
}

// keys says whether a type is, resolved, one of records that all have a scalar behind a key.
func (d Defs) keys(t Type, key string) bool {
	r, _ := d.follow(t)
	return r.Kind == Record && slices.ContainsFunc(r.Fields, func(f Field) bool {
		return f.Key == key && !f.Optional && d.scalar(f.Type)
	})
}

// scalar says whether a type is, resolved, one of scalars.
func (d Defs) scalar(t Type) bool {
	r, _ := d.follow(t)
	return r.Kind == Scalar || r.Kind == Enum
}

// apart is what is wrong with the heads of a union's Items.
func (d Defs) apart(items []Type) api.Errno {
	var all []string
	bare := false
	for _, item := range items {
		w := d.from(item)
		if w.loop {
			return api.ErrLoop
		}
		bare = bare || w.bare
		all = append(all, w.heads...)
	}
	slices.Sort(all)
	// Each Item has each of its heads once, so that those that stand twice are of two.
	return told(!bare && rise(all))
}

// Check is what is wrong with definitions.
func (d Defs) Check() api.Fault {
	if len(d.Types) != len(d.Names) {
		return api.Fault{Errno: api.ErrForm}
	}
	for i, n := range d.Names {
		if !char.Name(n) || i > 0 && n <= d.Names[i-1] {
			return api.Fault{Errno: api.ErrForm, At: d.Types[i].At}
		}
	}
	for _, t := range d.Types {
		if f := Check(d, t); f.Bad() {
			return f
		}
	}
	return api.Fault{}
}
