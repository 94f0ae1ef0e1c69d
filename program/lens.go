package program

import (
	"errors"
	"slices"

	"stanhope/api"
	"stanhope/check"
	"stanhope/graph"
	"stanhope/lens"
	"stanhope/plain"
	"stanhope/resolve"
	"stanhope/schema"
	"stanhope/value"
)

// reader reads the lenses of a document. What is wrong is told by a fault, which has a place;
// or by a number alone, if it is the lens itself that is wrong, whose place is told outside.
type reader struct{ *schema.Reader }

// Lens is a node as a lens.
func Lens(r *schema.Reader, n int) (lens.Lens, api.Fault) {
	l, err := reader{r}.lens(n)
	return l, told(err)
}

// form says that a node isn't as it should be.
func (r reader) form(n int) error {
	return api.Fault{Errno: api.ErrForm, At: plain.At(r.Doc, n)}
}

// lens reads a lens. It is called again for the lenses in it: at most as often as there may
// be parts, even of a node that stands within itself.
func (r reader) lens(n int) (lens.Lens, error) {
	if _, ok := plain.Node(r.Doc, n); !ok {
		return lens.Lens{}, r.form(n)
	}
	if f := r.Part(n); f.Bad() {
		return lens.Lens{}, f
	}
	l := lens.Lens{At: plain.At(r.Doc, n)}
	err := r.fill(&l, n)
	var f api.Fault
	switch {
	case err == nil:
		return l, nil
	case errors.As(err, &f):
		return lens.Lens{}, err
	}
	return lens.Lens{}, r.form(n)
}

// fill reads a lens's kind, and what it has.
func (r reader) fill(l *lens.Lens, n int) error {
	if x, _ := plain.Node(r.Doc, n); x.Kind == graph.Scalar {
		return word(l, x)
	}
	e, ok := plain.Map(r.Doc, n)
	if !ok || len(e.Keys) != 1 {
		return api.ErrForm
	}
	l.Kind = kind(e.Keys[0])
	read := r.reading(l.Kind)
	if read == nil {
		return api.ErrForm
	}
	if err := read(l, e.Kids[0]); err != nil {
		return within{e.Keys[0], err}
	}
	return nil
}

// word reads a lens that is a scalar.
func word(l *lens.Lens, x graph.Node) error {
	k := kind(x.Text)
	if x.Tag != resolve.Str || k != lens.Id && k != lens.Copy {
		return api.ErrForm
	}
	l.Kind = k
	return nil
}

// kind is the kind that has a word; 0, if there is none.
func kind(word string) lens.Kind {
	for k := lens.Id; k <= lens.Use; k++ {
		if check.Word(k) == word {
			return k
		}
	}
	return 0
}

// reading is how what stands behind a kind's word is read; nil, if nothing may stand there.
func (r reader) reading(k lens.Kind) func(l *lens.Lens, n int) error {
	switch k {
	case lens.Const:
		return r.constant
	case lens.Compose, lens.Union:
		return r.several
	case lens.Project:
		return r.project
	case lens.Rename, lens.Translate:
		return r.rename
	case lens.Hoist, lens.Plunge, lens.Lift, lens.Use:
		return r.name
	case lens.Sink:
		return r.sink
	case lens.Filter:
		return r.filter
	case lens.Map, lens.Items, lens.Keyed:
		return r.single
	case lens.On:
		return r.on
	case lens.Fill:
		return r.supply
	}
	return nil
}

// constant reads a view, and what it is the view of.
func (r reader) constant(l *lens.Lens, n int) error {
	e, ok := plain.Map(r.Doc, n)
	if !ok || !e.Are([]string{"view", "default"}) {
		return api.ErrForm
	}
	return r.literals(l, e.Behind("view"), e.Behind("default"))
}

// several reads a sequence of lenses.
func (r reader) several(l *lens.Lens, n int) error {
	kids, ok := plain.Seq(r.Doc, n)
	if !ok {
		return api.ErrForm
	}
	return r.kids(l, kids...)
}

// single reads one lens.
func (r reader) single(l *lens.Lens, n int) error { return r.kids(l, n) }

// on reads lenses behind keys.
func (r reader) on(l *lens.Lens, n int) error {
	e, ok := plain.Map(r.Doc, n)
	if !ok {
		return api.ErrForm
	}
	l.Keys = e.Keys
	return r.kids(l, e.Kids...)
}

// kids reads lenses.
func (r reader) kids(l *lens.Lens, nodes ...int) error {
	for _, n := range nodes {
		k, err := r.lens(n)
		if err != nil {
			return err
		}
		l.Kids = append(l.Kids, k)
	}
	return nil
}

// project reads which keys are kept, and what those are that aren't.
func (r reader) project(l *lens.Lens, n int) error {
	e, ok := plain.Map(r.Doc, n)
	if !ok || !e.Are([]string{"keep"}, "default") {
		return api.ErrForm
	}
	if l.Keys, ok = r.set(e.Behind("keep")); !ok {
		return api.ErrForm
	}
	drops := e.Behind("default")
	if drops < 0 {
		return nil
	}
	d, ok := plain.Map(r.Doc, drops)
	if !ok {
		return api.ErrForm
	}
	l.Drops = d.Keys
	return r.literals(l, d.Kids...)
}

// rename reads a word for each key.
func (r reader) rename(l *lens.Lens, n int) error {
	e, ok := plain.Map(r.Doc, n)
	if !ok {
		return api.ErrForm
	}
	l.Keys = e.Keys
	l.Words, ok = r.texts(e.Kids)
	return right(ok)
}

// name reads a key, or a name.
func (r reader) name(l *lens.Lens, n int) error {
	x, _ := plain.Node(r.Doc, n)
	s, ok := schema.Text(x)
	l.Name = s
	return right(ok)
}

// sink reads a key, and those that are sunk into it.
func (r reader) sink(l *lens.Lens, n int) error {
	e, ok := plain.Map(r.Doc, n)
	if !ok || !e.Are([]string{"into", "keys"}) {
		return api.ErrForm
	}
	if l.Keys, ok = r.set(e.Behind("keys")); !ok {
		return api.ErrForm
	}
	return r.name(l, e.Behind("into"))
}

// filter reads heads.
func (r reader) filter(l *lens.Lens, n int) error {
	words, ok := r.set(n)
	l.Words = words
	return right(ok)
}

// supply reads a key, and what is filled in behind it.
func (r reader) supply(l *lens.Lens, n int) error {
	e, ok := plain.Map(r.Doc, n)
	if !ok || !e.Are([]string{"key", "value"}) {
		return api.ErrForm
	}
	if err := r.name(l, e.Behind("key")); err != nil {
		return err
	}
	return r.literals(l, e.Behind("value"))
}

// texts are the texts of nodes, and whether all have one.
func (r reader) texts(nodes []int) ([]string, bool) {
	var l []string
	for _, n := range nodes {
		x, _ := plain.Node(r.Doc, n)
		s, ok := schema.Text(x)
		if !ok {
			return nil, false
		}
		l = append(l, s)
	}
	return l, true
}

// set is a list of texts, sorted, each once, and whether it is one.
func (r reader) set(n int) ([]string, bool) {
	nodes, ok := plain.Seq(r.Doc, n)
	if !ok {
		return nil, false
	}
	l, ok := r.texts(nodes)
	slices.Sort(l)
	return slices.Compact(l), ok
}

// literals reads the literals of nodes.
func (r reader) literals(l *lens.Lens, nodes ...int) error {
	for _, n := range nodes {
		x, _ := plain.Node(r.Doc, n)
		v, ok := literal(x)
		if !ok {
			return api.ErrForm
		}
		l.Values = append(l.Values, v)
	}
	return nil
}

// literal is the literal that looks like a node, and whether there is one.
func literal(x graph.Node) (value.Value, bool) {
	v := value.Value{Tag: x.Tag}
	switch x.Kind {
	case graph.Scalar:
		v.Kind, v.Text = value.Scalar, x.Text
	case graph.Seq:
		v.Kind = value.Seq
	case graph.Map:
		v.Kind = value.Map
	default:
		return value.Value{}, false
	}
	return v, len(x.Kids) == 0
}

// right is nil, if all is as it should be.
func right(ok bool) error {
	if ok {
		return nil
	}
	return api.ErrForm
}
