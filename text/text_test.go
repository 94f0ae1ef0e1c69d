package text_test

import (
	"slices"
	"strings"
	"testing"
	"unicode/utf8"

	"stanhope/api"
	"stanhope/short"
	"stanhope/text"
)

// bad is an ErrByte at a place.
func bad(at int) api.Fault { return api.Fault{Errno: api.ErrByte, At: at} }

// P2.1: every character that UTF-8 has.
func TestCheckCharacters(t *testing.T) {
	signs := [][2]rune{{0xA, 0xA}, {0x20, 0x7E}, {0xA0, 0xD7FF}, {0xE000, 0xFEFE}, {0xFF00, 0xFFFD}, {0x10000, 0x10FFFF}}
	for r := rune(0); r <= utf8.MaxRune; r++ {
		if !utf8.ValidRune(r) {
			continue
		}
		want := bad(2)
		for _, x := range signs {
			if x[0] <= r && r <= x[1] {
				want = api.Fault{}
			}
		}
		if got := text.Check("é" + string(r) + "x"); got != want {
			t.Fatalf("%X: %#v, not %#v", r, got, want)
		}
	}
}

// P2.1: bytes that are no UTF-8, and characters by more bytes than the fewest.
func TestCheckBytes(t *testing.T) {
	cases := []struct {
		s    string
		want api.Fault
	}{
		{"", api.Fault{}},
		{"a\n\n b", api.Fault{}},
		{"a\x00", bad(1)},
		{"\t", bad(0)},
		{"a\r\n", bad(1)},
		{"\x7f", bad(0)},
		{"é\u0085", bad(2)},
		{"\ufeffa", bad(0)},
		{"\ufffd", api.Fault{}},
		{"\ufffd\xff", bad(3)},
		{"\ufffe", bad(0)},
		{"\x80", bad(0)},
		{"a\xbf", bad(1)},
		{"a\xc3", bad(1)},
		{"a\xc3b", bad(1)},
		{"a\xe2\x82", bad(1)},
		{"€\xe2\x82x", bad(3)},
		{"a\xf0\x90\x80", bad(1)},
		{"\xc0\x8a", bad(0)},
		{"\xc1\xa1", bad(0)},
		{"\xe0\x82\xa9", bad(0)},
		{"\xf0\x82\x82\xac", bad(0)},
		{"\xed\x9f\xbf", api.Fault{}},
		{"a\xed\xa0\x80", bad(1)},
		{"a\xed\xbf\xbf", bad(1)},
		{"\xf4\x8f\xbf\xbf", api.Fault{}},
		{"\xf4\x90\x80\x80", bad(0)},
		{"\xf8\x88\x80\x80\x80", bad(0)},
		{"a\xfe", bad(1)},
		{"b\xff\x00", bad(1)},
	}
	for _, c := range cases {
		if got := text.Check(c.s); got != c.want {
			t.Errorf("%q: %#v, not %#v", c.s, got, c.want)
		}
	}
}

// P2.1: how many bytes there may be.
func TestCheckSize(t *testing.T) {
	size := api.Fault{Errno: api.ErrSize, At: 65536}
	cases := []struct {
		name, s string
		want    api.Fault
	}{
		{"65535", strings.Repeat("a", 65535), api.Fault{}},
		{"65536", strings.Repeat("a", 65536), api.Fault{}},
		{"65537", strings.Repeat("a", 65537), size},
		{"bytes, not characters", strings.Repeat("é", 32768), api.Fault{}},
		{"one character more", strings.Repeat("é", 32769), size},
		{"a byte that is none, at the end", strings.Repeat("a", 65535) + "\xff", bad(65535)},
		{"a size ahead of a byte", "\xff" + strings.Repeat("a", 65536), size},
		{"much more", strings.Repeat("\n", 1<<20), size},
	}
	for _, c := range cases {
		if got := text.Check(c.s); got != c.want {
			t.Errorf("%s: %#v, not %#v", c.name, got, c.want)
		}
	}
}

// P2.2
func TestLines(t *testing.T) {
	cases := []struct {
		s    string
		want []text.Line
	}{
		{"", nil},
		{"a", []text.Line{{0, 0, "a"}}},
		{"a\n", []text.Line{{0, 0, "a"}}},
		{"\n", []text.Line{{0, 0, ""}}},
		{"\n\n", []text.Line{{0, 0, ""}, {1, 0, ""}}},
		{"a\n\n", []text.Line{{0, 0, "a"}, {2, 0, ""}}},
		{"a\n ", []text.Line{{0, 0, "a"}, {2, 1, ""}}},
		{"a\n  b", []text.Line{{0, 0, "a"}, {2, 2, "b"}}},
		{"  a  b  \n\n   \n# c\n", []text.Line{{0, 2, "a  b  "}, {9, 0, ""}, {10, 3, ""}, {14, 0, "# c"}}},
		{" \ta", []text.Line{{0, 1, "\ta"}}},
		{"\u00a0a", []text.Line{{0, 0, "\u00a0a"}}},
		{"a\r\nb", []text.Line{{0, 0, "a\r"}, {3, 0, "b"}}},
		{"é\n \xff\x00\n", []text.Line{{0, 0, "é"}, {3, 1, "\xff\x00"}}},
		{"a\u2028b\u0085c", []text.Line{{0, 0, "a\u2028b\u0085c"}}},
	}
	for _, c := range cases {
		if got := text.Lines(c.s); !slices.Equal(got, c.want) {
			t.Errorf("%q: %#v, not %#v", c.s, got, c.want)
		}
	}
}

// P2.2
func TestIsAndFrom(t *testing.T) {
	cases := []struct {
		l    text.Line
		want int
	}{
		{text.Line{}, text.Blank},
		{text.Line{At: 3, Indent: 4}, text.Blank},
		{text.Line{Text: "#"}, text.Remark},
		{text.Line{At: 9, Indent: 2, Text: "# a"}, text.Remark},
		{text.Line{Text: "#---"}, text.Remark},
		{text.Line{Text: "---"}, text.Marker},
		{text.Line{At: 7, Text: "---"}, text.Marker},
		{text.Line{Indent: 1, Text: "---"}, text.Row},
		{text.Line{Indent: -1, Text: "---"}, text.Row},
		{text.Line{Text: "--"}, text.Row},
		{text.Line{Text: "----"}, text.Row},
		{text.Line{Text: "--- "}, text.Row},
		{text.Line{Text: "--- a"}, text.Row},
		{text.Line{Text: "---#"}, text.Row},
		{text.Line{Text: "a # b"}, text.Row},
		{text.Line{Text: "\xff"}, text.Row},
		{text.Line{Indent: 2, Text: "a"}, text.Row},
	}
	for _, c := range cases {
		if got := c.l.Is(); got != c.want {
			t.Errorf("%#v: is %d, not %d", c.l, got, c.want)
		}
		if got := c.l.From(); got != c.l.At+c.l.Indent {
			t.Errorf("%#v: from %d", c.l, got)
		}
	}
	if text.Blank != 0 || text.Remark != 1 || text.Marker != 2 || text.Row != 3 {
		t.Error("the kinds' numbers")
	}
}

// P2.2, P2.4: of every short text, the lines laid behind one another are the text, and say where they stand.
func TestLinesAreTheText(t *testing.T) {
	for s := range short.Texts(6, "\n", " ", "a", "#", "\xff", "\r") {
		var rows []string
		for _, l := range text.Lines(s) {
			row := strings.Repeat(" ", l.Indent) + l.Text
			if strings.HasPrefix(l.Text, " ") || strings.Contains(row, "\n") || !strings.HasPrefix(s[l.At:], row) {
				t.Fatalf("%q: %#v", s, l)
			}
			if l.At > 0 && s[l.At-1] != '\n' || !strings.HasPrefix(s[l.From():], l.Text) {
				t.Fatalf("%q: %#v", s, l)
			}
			rows = append(rows, row)
		}
		if got, want := strings.Join(rows, "\n"), strings.TrimSuffix(s, "\n"); got != want {
			t.Fatalf("%q: %q, not %q", s, got, want)
		}
		if want := strings.Count(s, "\n"); s != "" && !strings.HasSuffix(s, "\n") && len(rows) != want+1 || strings.HasSuffix(s, "\n") && len(rows) != want {
			t.Fatalf("%q: %d lines", s, len(rows))
		}
	}
}

// P2.3
func TestPlace(t *testing.T) {
	cases := []struct {
		s            string
		at           int
		line, column int
	}{
		{"", -1, 0, 0},
		{"", 0, 1, 1},
		{"", 1, 0, 0},
		{"ab", -1, 0, 0},
		{"ab", 0, 1, 1},
		{"ab", 1, 1, 2},
		{"ab", 2, 1, 3},
		{"ab", 3, 0, 0},
		{"a\nb", 1, 1, 2},
		{"a\nb", 2, 2, 1},
		{"a\nb", 3, 2, 2},
		{"a\n", 1, 1, 2},
		{"a\n", 2, 2, 1},
		{"a\n", 3, 0, 0},
		{"\n\n", 1, 2, 1},
		{"\n\n", 2, 3, 1},
		{"a\néx", 2, 2, 1},
		{"a\néx", 3, 2, 2},
		{"a\néx", 4, 2, 2},
		{"€€", 1, 1, 2},
		{"€€", 2, 1, 2},
		{"€€", 3, 1, 2},
		{"€€", 4, 1, 3},
		{"€€", 6, 1, 3},
		{"\xff\xffa", 2, 1, 3},
		{"\xe2\x82", 1, 1, 2},
		{"\xe2\x82", 2, 1, 3},
		{"\U00010000\r\tb", 6, 1, 4},
		{"ab", 1 << 62, 0, 0},
		{"ab", -1 << 63, 0, 0},
	}
	for _, c := range cases {
		if line, column := text.Place(c.s, c.at); line != c.line || column != c.column {
			t.Errorf("%q at %d: %d %d, not %d %d", c.s, c.at, line, column, c.line, c.column)
		}
	}
}

// P2.3: every place of every short text, held against a slow count.
func TestPlaceByCounting(t *testing.T) {
	for s := range short.Texts(5, "\n", "a", "é", "\xe2", "\x82", "\xac") {
		for at := -1; at <= len(s)+1; at++ {
			line, column := 0, 0
			if at >= 0 && at <= len(s) {
				line = 1 + strings.Count(s[:at], "\n")
				column = 1
				from := strings.LastIndex(s[:at], "\n") + 1
				for from < at {
					_, n := utf8.DecodeRuneInString(s[from:])
					from += n
					column++
				}
			}
			if l, c := text.Place(s, at); l != line || c != column {
				t.Fatalf("%q at %d: %d %d, not %d %d", s, at, l, c, line, column)
			}
		}
	}
}

// The chapter's example 1.
func TestExample(t *testing.T) {
	l := text.Lines("a\n  b")
	if len(l) != 2 || l[1] != (text.Line{At: 2, Indent: 2, Text: "b"}) {
		t.Error(l)
	}
}
