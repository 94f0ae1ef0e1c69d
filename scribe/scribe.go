// Package scribe writes types, lenses and programs as documents, for the layers' tests.
package scribe

import (
	"slices"
	"strings"

	"stanhope/char"
	"stanhope/check"
	"stanhope/lens"
	"stanhope/quote"
	"stanhope/resolve"
	"stanhope/typ"
	"stanhope/value"
)

// Pen writes on one row, between brackets. What may be written in several ways, or in
// whatever order, is written as Pick picks; without it as it stands.
type Pen struct {
	Pick func(n int) int // picks a number below n
}

// pick picks a number below another.
func (p Pen) pick(n int) int {
	if p.Pick == nil {
		return 0
	}
	return p.Pick(n)
}

// mix lays a list in another order.
func mix[T any](p Pen, l []T) {
	for i := range l {
		if p.Pick != nil {
			k := i + p.Pick(len(l)-i)
			l[i], l[k] = l[k], l[i]
		}
	}
}

// Map writes a mapping of pairs of keys and what is written behind them.
func (p Pen) Map(pairs ...[2]string) string {
	var l []string
	for _, e := range pairs {
		l = append(l, p.str(e[0])+": "+e[1])
	}
	mix(p, l)
	return "{" + strings.Join(l, ", ") + "}"
}

// Seq writes a sequence.
func (p Pen) Seq(items ...string) string { return "[" + strings.Join(items, ", ") + "]" }

// set writes a sequence whose order is of no account, nor how often something stands in it.
func (p Pen) set(items ...string) string {
	for i := range items {
		if p.pick(4) > 0 {
			items = append(items, items[i])
		}
	}
	mix(p, items)
	return p.Seq(items...)
}

// str writes a scalar of the tag str.
func (p Pen) str(s string) string {
	tag, _ := resolve.Of(s)
	switch {
	case tag == resolve.Str && char.Easy(s) && p.pick(4) == 0:
		return s
	case char.Shown(s) && p.pick(2) > 0:
		return quote.Single(s)
	}
	return quote.Double(s)
}

// text writes a scalar of the tag str, or bool, or int.
func (p Pen) text(s string) string {
	if tag, _ := resolve.Of(s); (tag == resolve.Bool || tag == resolve.Int) && p.pick(2) > 0 {
		return s
	}
	return p.str(s)
}

// texts writes some texts one by one.
func (p Pen) texts(l []string) []string {
	var t []string
	for _, s := range l {
		t = append(t, p.text(s))
	}
	return t
}

// Scalar writes a scalar of a tag.
func (p Pen) Scalar(tag, s string) string {
	switch tag {
	case resolve.Null:
		return [...]string{"~", "null"}[p.pick(2)]
	case resolve.Bool, resolve.Int:
		return s
	case resolve.Str:
		return p.str(s)
	}
	return tag + " " + p.str(s)
}

// Type writes a type that layer 24 can tell: of one of the kinds, and without a key that ends
// with ? where it isn't Optional.
func (p Pen) Type(t typ.Type) string {
	switch t.Kind {
	case typ.Scalar:
		if t.Tag == resolve.Null && p.pick(2) > 0 {
			return p.Scalar(t.Tag, "")
		}
		return p.str(t.Tag)
	case typ.Enum:
		var l []string
		for _, w := range t.Words {
			l = append(l, p.Scalar(t.Tag, w))
		}
		return p.Map([2]string{"enum", p.set(l...)})
	case typ.Record:
		return p.record(t)
	case typ.List:
		return p.Map(append(p.tag(t.Tag, resolve.Seq), [2]string{"list", p.Type(t.Items[0])})...)
	case typ.Keyed:
		return p.Map(append(p.tag(t.Tag, resolve.Seq), [2]string{"keyed", p.Type(t.Items[0])}, [2]string{"by", p.text(t.Name)})...)
	case typ.Union:
		return p.Map([2]string{"union", p.Seq(p.types(t.Items)...)})
	case typ.Dag:
		return p.str("dag")
	case typ.Any:
		return p.str("any")
	}
	return p.str(t.Name)
}

// tag writes the tag of a collection, or perhaps nothing, if it is that of all others.
func (p Pen) tag(tag, other string) [][2]string {
	if tag == other && p.pick(3) == 0 {
		return nil
	}
	return [][2]string{{"tag", p.text(tag)}}
}

// record writes a Record.
func (p Pen) record(t typ.Type) string {
	var fields [][2]string
	for _, f := range t.Fields {
		if f.Optional {
			f.Key += "?"
		}
		fields = append(fields, [2]string{f.Key, p.Type(f.Type)})
	}
	pairs := append(p.tag(t.Tag, resolve.Map), [2]string{"record", p.Map(fields...)})
	for _, s := range p.types(t.Items) {
		pairs = append(pairs, [2]string{"rest", s})
	}
	return p.Map(pairs...)
}

// types writes some types one by one.
func (p Pen) types(l []typ.Type) []string {
	var t []string
	for _, x := range l {
		t = append(t, p.Type(x))
	}
	return t
}

// Lens writes a lens that has what its kind names.
func (p Pen) Lens(l lens.Lens) string {
	var s string
	switch l.Kind {
	case lens.Id, lens.Copy:
		return p.str(check.Word(l.Kind))
	case lens.Const:
		s = p.Map([2]string{"view", p.Literal(l.Values[0])}, [2]string{"default", p.Literal(l.Values[1])})
	case lens.Compose, lens.Union:
		s = p.Seq(p.lenses(l.Kids)...)
	case lens.Project:
		pairs := [][2]string{{"keep", p.set(p.texts(l.Keys)...)}}
		if len(l.Drops) > 0 || p.pick(2) > 0 {
			var drops [][2]string
			for i, k := range l.Drops {
				drops = append(drops, [2]string{k, p.Literal(l.Values[i])})
			}
			pairs = append(pairs, [2]string{"default", p.Map(drops...)})
		}
		s = p.Map(pairs...)
	case lens.Rename, lens.Translate:
		s = p.behind(l.Keys, p.texts(l.Words))
	case lens.Sink:
		s = p.Map([2]string{"into", p.text(l.Name)}, [2]string{"keys", p.set(p.texts(l.Keys)...)})
	case lens.Filter:
		s = p.set(p.texts(l.Words)...)
	case lens.Map, lens.Items, lens.Keyed:
		s = p.Lens(l.Kids[0])
	case lens.On:
		s = p.behind(l.Keys, p.lenses(l.Kids))
	case lens.Fill:
		s = p.Map([2]string{"key", p.text(l.Name)}, [2]string{"value", p.Literal(l.Values[0])})
	default:
		s = p.text(l.Name)
	}
	return p.Map([2]string{check.Word(l.Kind), s})
}

// behind writes a mapping of keys and what is written behind each.
func (p Pen) behind(keys, written []string) string {
	var pairs [][2]string
	for i, k := range keys {
		pairs = append(pairs, [2]string{k, written[i]})
	}
	return p.Map(pairs...)
}

// lenses writes some lenses one by one.
func (p Pen) lenses(l []lens.Lens) []string {
	var t []string
	for _, x := range l {
		t = append(t, p.Lens(x))
	}
	return t
}

// Literal writes a literal.
func (p Pen) Literal(v value.Value) string {
	own := ""
	if resolve.Own(v.Tag) {
		own = v.Tag + " "
	}
	switch v.Kind {
	case value.Seq:
		return own + "[]"
	case value.Map:
		return own + "{}"
	}
	return p.Scalar(v.Tag, v.Text)
}

// Program writes a program, row by row.
func (p Pen) Program(d lens.Defs, s typ.Type, l lens.Lens) string {
	rows := []string{"source: " + p.Type(s), "lens: " + p.Lens(l)}
	if len(d.Types.Names) > 0 || p.pick(2) > 0 {
		rows = append(rows, "types: "+p.behind(d.Types.Names, p.types(d.Types.Types)))
	}
	if len(d.Names) > 0 || p.pick(2) > 0 {
		var defs []string
		for _, x := range d.Lenses {
			defs = append(defs, p.Map([2]string{"source", p.Type(x.Source)}, [2]string{"view", p.Type(x.View)}, [2]string{"lens", p.Lens(x.Lens)}))
		}
		rows = append(rows, "lenses: "+p.behind(d.Names, defs))
	}
	mix(p, rows)
	return strings.Join(slices.Concat(rows, []string{""}), "\n")
}
