package typ

import (
	"slices"
	"strings"

	"stanhope/quote"
	"stanhope/style"
)

// Same says whether two types are alike.
func Same(a, b Type) bool {
	todo := [][2]*Type{{&a, &b}}
	for len(todo) > 0 {
		last := len(todo) - 1
		x, y := todo[last][0], todo[last][1]
		todo = todo[:last]
		if !x.alike(y) {
			return false
		}
		others := y.parts()
		for i, p := range x.parts() {
			todo = append(todo, [2]*Type{p, others[i]})
		}
	}
	return true
}

// alike says whether two types are alike and have as many parts, whatever these are.
func (t *Type) alike(o *Type) bool {
	if t.Kind != o.Kind {
		return false
	}
	switch t.Kind {
	case Enum:
		if !slices.Equal(t.Words, o.Words) {
			return false
		}
		fallthrough
	case Scalar:
		return t.Tag == o.Tag
	case Record:
		return t.Tag == o.Tag && slices.EqualFunc(t.Fields, o.Fields, named) && len(t.Items) == len(o.Items)
	case Keyed:
		if t.Name != o.Name {
			return false
		}
		fallthrough
	case List:
		return t.Tag == o.Tag && len(t.Items) == len(o.Items)
	case Union:
		return len(t.Items) == len(o.Items)
	case Name:
		return t.Name == o.Name
	}
	return true
}

// named says whether two fields are alike, their types left aside.
func named(f, g Field) bool { return f.Key == g.Key && f.Optional == g.Optional }

// Show is a type's text.
func Show(t Type) string {
	var b strings.Builder
	todo := []piece{{of: &t}}
	for len(todo) > 0 {
		last := len(todo) - 1
		p := todo[last]
		todo = todo[:last]
		b.WriteString(p.ahead)
		if p.of != nil {
			for _, q := range slices.Backward(p.of.pieces()) {
				todo = append(todo, q)
			}
		}
	}
	return b.String()
}

// piece is a text, and, if there is one, the type that is shown behind it.
type piece struct {
	ahead string
	of    *Type
}

// pieces are what a type's text consists of.
func (t *Type) pieces() []piece {
	open := "[" + t.Tag + " "
	switch t.Kind {
	case Scalar:
		return []piece{{ahead: t.Tag}}
	case Enum:
		return []piece{{ahead: "<" + t.Tag + words(t.Words) + ">"}}
	case Record:
		return t.entries()
	case Keyed:
		open += "by " + style.Key(t.Name) + " "
		fallthrough
	case List:
		return t.row(open, " ", "]")
	case Union:
		return t.row("(", "|", ")")
	case Name:
		return []piece{{ahead: "$" + t.Name}}
	case Dag:
		return []piece{{ahead: "dag"}}
	case Any:
		return []piece{{ahead: "any"}}
	}
	return []piece{{ahead: "?"}}
}

// words are an enum's words, each behind a blank.
func words(l []string) string {
	var b strings.Builder
	for _, w := range l {
		b.WriteString(" " + quote.Double(w))
	}
	return b.String()
}

// entries are the pieces of a record.
func (t *Type) entries() []piece {
	l := []piece{{ahead: "{" + t.Tag}}
	for i, f := range t.Fields {
		mark := ":"
		if f.Optional {
			mark = "?:"
		}
		l = append(l, piece{" " + style.Key(f.Key) + mark, &t.Fields[i].Type})
	}
	for i := range t.Items {
		l = append(l, piece{" *:", &t.Items[i]})
	}
	return append(l, piece{ahead: "}"})
}

// row are the pieces of a type that shows its Items in a row.
func (t *Type) row(open, between, end string) []piece {
	l := []piece{{ahead: open}}
	for i := range t.Items {
		l = append(l, piece{between, &t.Items[i]})
	}
	if len(t.Items) > 0 {
		l[1].ahead = ""
	}
	return append(l, piece{ahead: end})
}
