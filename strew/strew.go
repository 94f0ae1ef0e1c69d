// Package strew makes lenses, sources and views as they fall, as texts, for the layers' tests.
package strew

import (
	"strings"

	"stanhope/brew"
	"stanhope/check"
	"stanhope/emit"
	"stanhope/graph"
	"stanhope/scribe"
	"stanhope/sketch"
	"stanhope/spell"
	"stanhope/typ"
	"stanhope/value"
)

// Maker makes lenses, sources and views as they fall, as texts that are written in whatever way.
type Maker struct {
	*brew.Maker
	scribe.Pen
}

// New is a maker of what falls by numbers, each of which is picked below another one.
func New(pick func(n int) int) Maker {
	m := &brew.Maker{Pick: pick, Often: 200}
	m.Types = spell.Defs(brew.Names)
	return Maker{m, scribe.Pen{Pick: m.Pick}}
}

// Below is a number below another.
func (m Maker) Below(n int) int { return m.Maker.Pick(n) }

// Leafy makes a plan, more often than not one whose sources may have leaves.
func (m Maker) Leafy() check.Plan {
	for range m.Below(20) {
		p := m.Plan()
		if s := typ.Show(p.Source); strings.Contains(s, "any") || strings.Contains(s, "dag") || strings.Contains(s, "$x") {
			return p
		}
	}
	return m.Plan()
}

// Document is a text of a type, whose leaves share what they reach; it is empty, if none came.
func (m Maker) Document(x typ.Type, deep int) string {
	v := m.Value(x, deep)
	g, f := value.Weave(v, sketch.Pick(m.Below).Graph(5+m.Below(8)))
	if f.Bad() {
		return ""
	}
	if _, f := value.Parse(m.Types, x, g); f.Bad() {
		return ""
	}
	return m.Written(g)
}

// Written is a graph's text in one of several ways.
func (m Maker) Written(g graph.Graph) string {
	if s, f := emit.Graph(g); !f.Bad() && m.Below(3) == 0 {
		return "# x\n---\n\n" + s
	}
	return strings.Repeat(" ", m.Below(3)) + m.Graph(g) + []string{"", "\n", "\n# y"}[m.Below(3)]
}

// Garbled is a text with some bytes changed.
func (m Maker) Garbled(s string) string {
	const bytes = "\n\n  -::,[]{}#&*!|>'\"\\%~01abckx?\xff\xc3\t"
	for range m.Below(3) {
		i := m.Below(len(s) + 1)
		j := min(i+m.Below(4), len(s))
		s = s[:i] + []string{"", bytes[m.Below(len(bytes)):][:1], s[i:j] + s[i:j]}[m.Below(3)] + s[j:]
	}
	return s
}

// Texts are a lens, a view and a source, all three as texts, of which the view or the source may be empty.
func (m Maker) Texts() (lens, view, source string) {
	p := m.Leafy()
	return m.Program(m.Defs, p.Source, p.Lens), m.Document(p.View, 4), m.Document(p.Source, 4)
}
