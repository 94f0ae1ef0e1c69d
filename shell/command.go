package shell

import (
	"slices"
	"strings"

	"stanhope/api"
	"stanhope/char"
	"stanhope/quote"
	"stanhope/text"
)

// let is the word of the only command that has a text.
const let = "let"

// Command is a command: its word, its names, of let a text.
type Command struct {
	Word  string
	Names []string
	Text  string
}

// String is a command's line.
func (c Command) String() string {
	var b strings.Builder
	b.WriteString(c.Word)
	for _, name := range c.Names {
		b.WriteString(" " + name)
	}
	if c.Word == let {
		b.WriteString(" " + quote.Double(c.Text))
	}
	return b.String()
}

// right says whether a command is one that is parsed of some line.
func (c Command) right() bool {
	n := shapeOf(c.Word).names
	return n > 0 && len(c.Names) == n && !slices.ContainsFunc(c.Names, isNoName) &&
		(c.Text == "" || c.Word == let && len(c.Text) <= api.MaxScalar)
}

// isNoName says whether a text is no name.
func isNoName(s string) bool { return !char.Name(s) }

// shape is how many names a command has, and whether it keeps a text by the first of them.
type shape struct {
	names int
	keeps bool
}

// shapeOf is the shape of a word's commands; it has no names, if there are none.
func shapeOf(word string) shape {
	var s shape
	switch word {
	case "put":
		s.names++
		fallthrough
	case "get", "create":
		s.names++
		fallthrough
	case "canon", "fold", "tree":
		s.names++
		fallthrough
	case let:
		s.names++
		s.keeps = true
	case "audit":
		s.names++
		fallthrough
	case "same", "alike", "diff":
		s.names++
		fallthrough
	case "show", "check", "size":
		s.names++
	}
	return s
}

// Parse is a script's commands.
func Parse(s string) ([]Command, int, api.Errno) {
	if len(s) > api.MaxText {
		return nil, 0, api.ErrSize
	}
	var l []Command
	for i, line := range text.Lines(s) {
		if is := line.Is(); is == text.Blank || is == text.Remark {
			continue
		}
		c, n := read(line.Text)
		if n == api.OK && len(l) == api.MaxParts {
			n = api.ErrMany
		}
		if n != api.OK {
			return nil, i, n
		}
		l = append(l, c)
	}
	return l, 0, api.OK
}

// read is the command of a line without blanks ahead.
func read(line string) (Command, api.Errno) {
	word, rest, _ := strings.Cut(line, " ")
	if shapeOf(word).names == 0 {
		return Command{}, api.ErrName
	}
	c := Command{Word: word}
	if word == let {
		name, quoted, _ := strings.Cut(rest, " ")
		content, next, f := quote.ReadDouble(quoted, 0)
		if f.Bad() || next < len(quoted) {
			return Command{}, api.ErrForm
		}
		c.Names, c.Text = []string{name}, content
	} else {
		c.Names = strings.Split(rest, " ")
	}
	if !c.right() {
		return Command{}, api.ErrForm
	}
	return c, api.OK
}
