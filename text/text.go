// Package text is layer 2: see shared/doc/02-text.md.
package text

import (
	"strings"
	"unicode/utf8"

	"stanhope/api"
)

// The kinds of lines.
const (
	Blank  = 0
	Remark = 1
	Marker = 2
	Row    = 3
)

// Line is a line: where it begins, its blanks, what stands behind them.
type Line struct {
	At, Indent int
	Text       string
}

// From is where a line's text begins.
func (l Line) From() int { return l.At + l.Indent }

// Is is what a line is.
func (l Line) Is() int {
	switch {
	case l.Text == "":
		return Blank
	case l.Text[0] == '#':
		return Remark
	case l.Text == "---":
		if l.Indent == 0 {
			return Marker
		}
		fallthrough
	default:
		return Row
	}
}

// Check is what is wrong with a text.
func Check(s string) api.Fault {
	if len(s) > api.MaxText {
		return api.Fault{Errno: api.ErrSize, At: api.MaxText}
	}
	for i, r := range s {
		if !sign(r) || r == utf8.RuneError && !replacement(s[i:]) {
			return api.Fault{Errno: api.ErrByte, At: i}
		}
	}
	return api.Fault{}
}

// sign says whether a character may stand in a text.
func sign(r rune) bool {
	switch {
	case r == '\n':
		return true
	case r >= 0x20 && r <= 0x7E:
		return true
	case r >= 0xA0 && r <= 0xD7FF:
		return true
	case r >= 0xE000 && r <= 0xFFFD:
		return r != 0xFEFF
	}
	return r >= 0x10000 && r <= 0x10FFFF
}

// replacement says whether a text begins with FFFD itself: a range tells that
// of bytes that are no UTF-8, too, and FFFD is a sign while they are none.
func replacement(s string) bool {
	return strings.HasPrefix(s, string(utf8.RuneError))
}

// Lines are a text's lines.
func Lines(s string) []Line {
	var l []Line
	for at := 0; at < len(s); {
		row, _, _ := strings.Cut(s[at:], "\n")
		l = append(l, line(at, row))
		at += len(row) + 1
	}
	return l
}

// line is the line that begins at a place, of what stands on it.
func line(at int, row string) Line {
	behind := strings.TrimLeft(row, " ")
	return Line{At: at, Indent: len(row) - len(behind), Text: behind}
}

// Place is a place's line and column; 0 and 0, if the text has no such place.
func Place(s string, at int) (int, int) {
	if at < 0 || at > len(s) {
		return 0, 0
	}
	row, column := 1, 1
	// The whole text is gone through, not what stands ahead of the place: a
	// character that the place splits would be several of there.
	for i, r := range s {
		if i >= at {
			break
		}
		if r == '\n' {
			row, column = row+1, 1
		} else {
			column++
		}
	}
	return row, column
}
