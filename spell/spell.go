// Package spell makes types of the texts that layer 15 shows of them, for the layers' tests.
package spell

import (
	"strings"

	"stanhope/quote"
	"stanhope/typ"
)

// Type is the type of a text. Each type in it has the place at which it stands in
// the text. It may be wrong in all that its text can tell: of the Tag or the key
// of another one, or of fewer or more Items; ? is one of no Kind.
func Type(s string) typ.Type {
	r := reader{text: s}
	t := r.typ()
	if r.rest() != "" {
		r.fail()
	}
	return t
}

// Defs are the definitions of a text: name=type, with blanks between them.
func Defs(s string) typ.Defs {
	var d typ.Defs
	r := reader{text: s}
	for r.rest() != "" {
		if len(d.Names) > 0 {
			r.must(" ")
		}
		d.Names = append(d.Names, r.until("="))
		r.must("=")
		d.Types = append(d.Types, r.typ())
	}
	return d
}

// reader reads a text from the left.
type reader struct {
	text string
	at   int
}

// fail ends it all: a test's own text is wrong.
func (r *reader) fail() { panic("spell: " + r.text[:r.at] + " ?? " + r.rest()) }

// rest is what isn't read.
func (r *reader) rest() string { return r.text[r.at:] }

// may says whether a text comes next, and reads it if so.
func (r *reader) may(s string) bool {
	if !strings.HasPrefix(r.rest(), s) {
		return false
	}
	r.at += len(s)
	return true
}

// must reads what comes next.
func (r *reader) must(s string) {
	if !r.may(s) {
		r.fail()
	}
}

// until reads up to the first of some bytes, or to the end.
func (r *reader) until(ends string) string {
	s := r.rest()
	if i := strings.IndexAny(s, ends); i >= 0 {
		s = s[:i]
	}
	r.at += len(s)
	return s
}

// word reads a tag, or a name.
func (r *reader) word() string { return r.until(" |>]})") }

// typ reads a type.
func (r *reader) typ() typ.Type {
	at := r.at
	t := r.inner()
	t.At = at
	return t
}

// inner reads a type, its place left aside.
func (r *reader) inner() typ.Type {
	switch {
	case r.may("<"):
		return r.enum()
	case r.may("{"):
		return r.record()
	case r.may("["):
		return r.list()
	case r.may("("):
		return typ.Type{Kind: typ.Union, Items: r.items("|", ")")}
	case r.may("$"):
		return typ.Type{Kind: typ.Name, Name: r.word()}
	}
	switch s := r.word(); s {
	case "dag":
		return typ.Type{Kind: typ.Dag}
	case "any":
		return typ.Type{Kind: typ.Any}
	case "?":
		return typ.Type{}
	default:
		return typ.Type{Kind: typ.Scalar, Tag: s}
	}
}

// enum reads an enum.
func (r *reader) enum() typ.Type {
	t := typ.Type{Kind: typ.Enum, Tag: r.word()}
	for r.may(" ") {
		t.Words = append(t.Words, r.key())
	}
	r.must(">")
	return t
}

// record reads a record.
func (r *reader) record() typ.Type {
	t := typ.Type{Kind: typ.Record, Tag: r.word()}
	for r.may(" ") {
		if r.may("*:") {
			t.Items = append(t.Items, r.typ())
			continue
		}
		f := typ.Field{Key: r.key(), Optional: r.may("?")}
		r.must(":")
		f.Type = r.typ()
		t.Fields = append(t.Fields, f)
	}
	r.must("}")
	return t
}

// list reads a list, or one that is keyed.
func (r *reader) list() typ.Type {
	t := typ.Type{Kind: typ.List, Tag: r.word()}
	r.must(" ")
	if r.may("by ") {
		t.Kind, t.Name = typ.Keyed, r.key()
		r.must(" ")
	}
	t.Items = r.items(" ", "]")
	return t
}

// items reads types up to an end; there may be none.
func (r *reader) items(between, end string) []typ.Type {
	var l []typ.Type
	for !r.may(end) {
		if len(l) > 0 {
			r.must(between)
		}
		l = append(l, r.typ())
	}
	return l
}

// key reads a key, or a word, in any of its forms.
func (r *reader) key() string {
	read := quote.ReadDouble
	switch {
	case strings.HasPrefix(r.rest(), "'"):
		read = quote.ReadSingle
	case !strings.HasPrefix(r.rest(), "\""):
		return r.until(" ?:>]")
	}
	s, next, f := read(r.text, r.at)
	if f.Bad() {
		r.fail()
	}
	r.at = next
	return s
}
