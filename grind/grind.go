// Package grind makes lenses of texts, for the layers' tests.
package grind

import (
	"strconv"

	"stanhope/graph"
	"stanhope/lens"
	"stanhope/load"
	"stanhope/spell"
	"stanhope/typ"
	"stanhope/value"
)

// Lens is the lens of a text's only document, written as layer 25 says; but all keys
// and words stay in the order in which they stand there, as often as they do, and a
// map, items or keyed may have a sequence of lenses, so that it may be wrong in all that
// its text can tell. Each lens in it has its node's place.
func Lens(s string) lens.Lens {
	r := read(s)
	return r.lens(r.Root)
}

// Defs are definitions, in the order in which they stand, of a text's only document: a mapping of names and lenses.
func Defs(s string) lens.Defs {
	r := read(s)
	var d lens.Defs
	for i, name := range r.Nodes[r.Root].Keys {
		d.Names = append(d.Names, name)
		d.Lenses = append(d.Lenses, lens.Def{Lens: r.lens(r.Nodes[r.Root].Kids[i])})
	}
	return d
}

// Program are definitions, in the order in which they stand, of a text's only document:
// a mapping of types and lenses, or of one of them; types is a mapping of names and the
// texts that layer 15 shows of types, lenses one of names and mappings of source, view,
// such texts, too, and lens. Each type has its place in the whole text.
func Program(s string) lens.Defs {
	r := read(s)
	var d lens.Defs
	if n := r.perhaps(r.Root, "types"); n >= 0 {
		d.Types.Names = r.Nodes[n].Keys
		for _, k := range r.Nodes[n].Kids {
			d.Types.Types = append(d.Types.Types, r.typ(k))
		}
	}
	if n := r.perhaps(r.Root, "lenses"); n >= 0 {
		d.Names = r.Nodes[n].Keys
		for _, k := range r.Nodes[n].Kids {
			d.Lenses = append(d.Lenses, lens.Def{Source: r.typ(r.behind(k, "source")), View: r.typ(r.behind(k, "view")), Lens: r.lens(r.behind(k, "lens"))})
		}
	}
	return d
}

// reader reads a document.
type reader struct {
	text string
	load.Doc
}

// read is a reader of a text's only document.
func read(s string) reader {
	d, f := load.One(s)
	if f.Bad() {
		panic("grind: " + s + ": " + f.Word() + " at " + strconv.Itoa(f.At))
	}
	return reader{s, d}
}

// fail ends it all: a test's own text is wrong.
func (r reader) fail(n int) { panic("grind: " + r.text[:r.At[n]] + " ?? " + r.text[r.At[n]:]) }

// lens reads a lens.
func (r reader) lens(n int) lens.Lens {
	x := r.Nodes[n]
	l := lens.Lens{At: r.At[n]}
	if x.Kind == graph.Scalar {
		l.Kind = map[string]lens.Kind{"id": lens.Id, "copy": lens.Copy}[x.Text]
	} else if x.Kind == graph.Map && len(x.Keys) == 1 {
		l = r.filled(l, x.Keys[0], x.Kids[0])
	}
	if l.Kind == 0 {
		r.fail(n)
	}
	return l
}

// filled reads what is written behind a kind's word.
func (r reader) filled(l lens.Lens, word string, n int) lens.Lens {
	switch word {
	case "const":
		l.Kind, l.Values = lens.Const, []value.Value{r.literal(r.behind(n, "view")), r.literal(r.behind(n, "default"))}
	case "compose":
		l.Kind, l.Kids = lens.Compose, r.lenses(n)
	case "union":
		l.Kind, l.Kids = lens.Union, r.lenses(n)
	case "project":
		l.Kind, l.Keys = lens.Project, r.texts(r.behind(n, "keep"))
		if d := r.perhaps(n, "default"); d >= 0 {
			l.Drops = r.Nodes[d].Keys
			for _, k := range r.Nodes[d].Kids {
				l.Values = append(l.Values, r.literal(k))
			}
		}
	case "rename":
		l.Kind, l.Keys, l.Words = lens.Rename, r.Nodes[n].Keys, r.texts(n)
	case "translate":
		l.Kind, l.Keys, l.Words = lens.Translate, r.Nodes[n].Keys, r.texts(n)
	case "hoist", "plunge", "lift", "use":
		l.Kind = map[string]lens.Kind{"hoist": lens.Hoist, "plunge": lens.Plunge, "lift": lens.Lift, "use": lens.Use}[word]
		l.Name = r.label(n)
	case "sink":
		l.Kind, l.Name, l.Keys = lens.Sink, r.label(r.behind(n, "into")), r.texts(r.behind(n, "keys"))
	case "filter":
		l.Kind, l.Words = lens.Filter, r.texts(n)
	case "map", "items", "keyed":
		l.Kind = map[string]lens.Kind{"map": lens.Map, "items": lens.Items, "keyed": lens.Keyed}[word]
		if r.Nodes[n].Kind == graph.Seq {
			l.Kids = r.lenses(n)
		} else {
			l.Kids = []lens.Lens{r.lens(n)}
		}
	case "on":
		l.Kind, l.Keys, l.Kids = lens.On, r.Nodes[n].Keys, r.lenses(n)
	case "fill":
		l.Kind, l.Name, l.Values = lens.Fill, r.label(r.behind(n, "key")), []value.Value{r.literal(r.behind(n, "value"))}
	}
	return l
}

// typ reads a type, which stands as a text between marks or without them.
func (r reader) typ(n int) typ.Type {
	at := r.At[n]
	if c := r.text[at]; c == '\'' || c == '"' {
		at++
	}
	return spell.Moved(spell.Type(r.label(n)), at)
}

// perhaps is the node behind a mapping's key; -1, if there is none.
func (r reader) perhaps(n int, key string) int {
	for i, k := range r.Nodes[n].Keys {
		if k == key {
			return r.Nodes[n].Kids[i]
		}
	}
	return -1
}

// behind is the node behind a mapping's key.
func (r reader) behind(n int, key string) int {
	k := r.perhaps(n, key)
	if k < 0 {
		r.fail(n)
	}
	return k
}

// label reads a scalar's text.
func (r reader) label(n int) string {
	if r.Nodes[n].Kind != graph.Scalar {
		r.fail(n)
	}
	return r.Nodes[n].Text
}

// texts are what stands in a collection of scalars.
func (r reader) texts(n int) []string {
	var l []string
	for _, k := range r.Nodes[n].Kids {
		l = append(l, r.label(k))
	}
	return l
}

// lenses are what stands in a collection of lenses.
func (r reader) lenses(n int) []lens.Lens {
	var l []lens.Lens
	for _, k := range r.Nodes[n].Kids {
		l = append(l, r.lens(k))
	}
	return l
}

// literal is what looks like a node that is to be a literal, what is below it left aside.
func (r reader) literal(n int) value.Value {
	x := r.Nodes[n]
	return value.Value{Kind: value.Kind(x.Kind), Tag: x.Tag, Text: x.Text}
}
