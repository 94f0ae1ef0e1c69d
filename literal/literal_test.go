package literal_test

import (
	"math"
	"slices"
	"strings"
	"testing"
	"unicode/utf8"

	"stanhope/literal"
	"stanhope/short"
	"stanhope/text"
)

// The three headers without a digit.
var (
	clip  = literal.Header{Chomp: literal.Clip}
	strip = literal.Header{Chomp: literal.Strip}
	keep  = literal.Header{Chomp: literal.Keep}
)

// told is a header with a digit, that clips.
func told(n int) literal.Header { return literal.Header{Indent: n} }

// blanks is a text of that many blanks.
func blanks(n int) string { return strings.Repeat(" ", n) }

func TestNumbers(t *testing.T) {
	if literal.Clip != 0 || literal.Strip != 1 || literal.Keep != 2 {
		t.Error("the numbers of what becomes of the end")
	}
}

// P6.1
func TestReadHeader(t *testing.T) {
	type answer struct {
		h    literal.Header
		next int
		ok   bool
	}
	good := func(indent, chomp, next int) answer {
		return answer{literal.Header{Indent: indent, Chomp: chomp}, next, true}
	}
	cases := []struct {
		s    string
		at   int
		want answer
	}{
		{"|", 0, good(0, literal.Clip, 1)},
		{"|-", 0, good(0, literal.Strip, 2)},
		{"|+", 0, good(0, literal.Keep, 2)},
		{"|1", 0, good(1, literal.Clip, 2)},
		{"|9", 0, good(9, literal.Clip, 2)},
		{"|2-", 0, good(2, literal.Strip, 3)},
		{"x|2+", 1, good(2, literal.Keep, 4)},
		{"|0", 0, good(0, literal.Clip, 1)},
		{"|0-", 0, good(0, literal.Clip, 1)},
		{"|12", 0, good(1, literal.Clip, 2)},
		{"|12-", 0, good(1, literal.Clip, 2)},
		{"|-2", 0, good(0, literal.Strip, 2)},
		{"|+2", 0, good(0, literal.Keep, 2)},
		{"|--", 0, good(0, literal.Strip, 2)},
		{"|+-", 0, good(0, literal.Keep, 2)},
		{"|-+", 0, good(0, literal.Strip, 2)},
		{"||", 0, good(0, literal.Clip, 1)},
		{"||-", 1, good(0, literal.Strip, 3)},
		{"| 2", 0, good(0, literal.Clip, 1)},
		{"| -", 0, good(0, literal.Clip, 1)},
		{"|2 -", 0, good(2, literal.Clip, 2)},
		{"|\n2", 0, good(0, literal.Clip, 1)},
		{"|>", 0, good(0, literal.Clip, 1)},
		{"|\xb2", 0, good(0, literal.Clip, 1)},
		{"a: |2- # b", 3, good(2, literal.Strip, 6)},
		{"|2-", 1, answer{}},
		{"|2-", 3, answer{}},
		{"|2-", 4, answer{}},
		{"|2-", -1, answer{}},
		{"|", math.MaxInt, answer{}},
		{"|", math.MinInt, answer{}},
		{"", 0, answer{}},
		{"", -1, answer{}},
		{">", 0, answer{}},
		{">-", 0, answer{}},
		{" |", 0, answer{}},
		{"2|", 0, answer{}},
	}
	for _, c := range cases {
		h, next, ok := literal.ReadHeader(c.s, c.at)
		if got := (answer{h, next, ok}); got != c.want {
			t.Errorf("%q at %d: %v, not %v", c.s, c.at, got, c.want)
		}
	}
}

// P6.1: every byte as the first one, behind |, and behind a digit.
func TestReadHeaderByByte(t *testing.T) {
	for n := range 256 {
		c := string([]byte{byte(n)})
		if _, _, ok := literal.ReadHeader(c+"2-", 0); ok != (c == "|") {
			t.Errorf("%q: %v", c, ok)
		}
		var indent, chomp, more int
		if i := strings.Index("123456789", c); i >= 0 {
			indent, more = i+1, 1
		}
		if i := strings.Index("-+", c); i >= 0 {
			chomp, more = i+1, 1
		}
		want := literal.Header{Indent: indent, Chomp: chomp}
		if h, next, ok := literal.ReadHeader("|"+c, 0); h != want || next != 1+more || !ok {
			t.Errorf("%q: %v %d %v", "|"+c, h, next, ok)
		}
		if chomp == 0 {
			more = 0
		}
		want = literal.Header{Indent: 3, Chomp: chomp}
		if h, next, ok := literal.ReadHeader("-|3"+c, 1); h != want || next != 3+more || !ok {
			t.Errorf("%q: %v %d %v", "-|3"+c, h, next, ok)
		}
	}
}

// P6.2: the lines of texts.
func TestRead(t *testing.T) {
	cases := []struct {
		s            string
		from, parent int
		h            literal.Header
		content      string
		next         int
	}{
		{"", 0, 0, clip, "", 0},
		{"", 0, 0, keep, "", 0},
		{"", 0, 0, told(1), "", 0},
		{" a", 0, 0, clip, "a\n", 1},
		{" a\n", 0, 0, clip, "a\n", 1},
		{" a\n", 0, 0, strip, "a", 1},
		{" a\n", 0, 0, keep, "a\n", 1},
		// By the parent.
		{"a\n", 0, -1, clip, "", 0},
		{"a\n", 0, 0, clip, "", 0},
		{" a\n", 0, -1, clip, "a\n", 1},
		{" a\n", 0, 1, clip, "", 0},
		{"  a\n", 0, 1, clip, "a\n", 1},
		{"  a\n b\n", 0, 1, clip, "a\n", 1},
		// Lines that are indented by more, by less.
		{"  a\n   b\n  c\n b\n", 0, 0, clip, "a\n b\nc\n", 3},
		{"  a\n   b\n  c\nb\n  d\n", 0, 0, strip, "a\n b\nc", 3},
		{"    a\n  b\n", 0, 0, clip, "a\n", 1},
		// Blank lines ahead, between and behind.
		{"\n\n  a\n", 0, 0, clip, "\n\na\n", 3},
		{"\n\n  a\n", 0, 0, strip, "\n\na", 3},
		{"  a\n\n\n  b\n", 0, 0, clip, "a\n\n\nb\n", 4},
		{"  a\n\n\nb\n", 0, 0, clip, "a\n", 3},
		{"  a\n\n\nb\n", 0, 0, strip, "a", 3},
		{"  a\n\n\nb\n", 0, 0, keep, "a\n\n\n", 3},
		{"  a\n\n", 0, 0, keep, "a\n\n", 2},
		{"  a\n \n  \nb", 0, 0, keep, "a\n\n\n", 3},
		{"  a\n \n  \nb", 0, 0, strip, "a", 3},
		// Blanks of blank lines, beyond n, are what they give.
		{"  a\n    \n  b\n", 0, 0, clip, "a\n  \nb\n", 3},
		{"  a\n   \n", 0, 0, clip, "a\n \n", 2},
		{"  a\n   \n", 0, 0, strip, "a\n ", 2},
		{"  a\n   \n\n", 0, 0, keep, "a\n \n\n", 3},
		{"     \n  a\n", 0, 0, clip, "   \na\n", 2},
		{"  a \n", 0, 0, strip, "a ", 1},
		// Blank lines alone: there is no n.
		{"\n\n", 0, 0, clip, "", 2},
		{"\n\n", 0, 0, strip, "", 2},
		{"\n\n", 0, 0, keep, "\n\n", 2},
		{"   \n     ", 0, 0, clip, "", 2},
		{"   \n     ", 0, 0, keep, "\n\n", 2},
		{"\n   \na\n", 0, 0, clip, "", 2},
		{"\n   \na\n", 0, 0, keep, "\n\n", 2},
		{"\n   \n a\n", 0, 1, keep, "\n\n", 2},
		{"a\n", 0, 0, keep, "", 0},
		// Remarks and markers are lines as others are.
		{"  # a\n  b\n", 0, 0, clip, "# a\nb\n", 2},
		{"  a\n  # b\n# c\n", 0, 0, clip, "a\n# b\n", 2},
		{"# a\n  b\n", 0, 0, clip, "", 0},
		{"  a\n---\n  b\n", 0, 0, clip, "a\n", 1},
		{"---\n  b\n", 0, -1, clip, "", 0},
		{" ---\n a\n", 0, 0, clip, "---\na\n", 2},
		// By a digit.
		{"   a\n", 0, 0, told(1), "  a\n", 1},
		{"   a\n", 0, 1, told(2), "a\n", 1},
		{"   a\n", 0, 2, told(2), "", 0},
		{"   a\n", 0, -9, told(2), " a\n", 1},
		{"   a\n b\n  c\n", 0, 0, told(2), " a\n", 1},
		{"     \n\n a\n", 0, 1, told(2), "  \n", 2},
		{"     \n\n a\n", 0, 1, literal.Header{Indent: 2, Chomp: literal.Keep}, "  \n\n", 2},
		{"     \n\n a\n", 0, 1, literal.Header{Indent: 2, Chomp: literal.Strip}, "  ", 2},
		{"\n\n a\n", 0, 1, literal.Header{Indent: 2, Chomp: literal.Keep}, "\n\n", 2},
		{blanks(9) + "a", 0, 0, told(9), "a\n", 1},
		{blanks(8) + "a", 0, 0, told(9), "", 0},
		{blanks(12) + "a", 0, 2, told(9), " a\n", 1},
		// From a line on.
		{"a: |\n  b\n c\n", 1, 0, clip, "b\n", 2},
		{"    x\n  b\n  c\nd\n", 1, 0, clip, "b\nc\n", 3},
		{"  a\n  b\n", 2, 0, keep, "", 2},
		// Any bytes.
		{"  \xff\t\x00\n  é\r\n", 0, 0, clip, "\xff\t\x00\né\r\n", 2},
		{" \ta\n \tb", 0, 0, strip, "\ta\n\tb", 2},
		{"\ta\n", 0, 0, clip, "", 0},
	}
	for _, c := range cases {
		content, next := literal.Read(text.Lines(c.s), c.from, c.parent, c.h)
		if content != c.content || next != c.next {
			t.Errorf("%q from %d below %d by %v: %q %d, not %q %d", c.s, c.from, c.parent, c.h, content, next, c.content, c.next)
		}
	}
}

// P6.2: numbers beyond those that a text has count as the nearest one.
func TestReadBounds(t *testing.T) {
	l := text.Lines("  a\n   b\n\nc\n")
	read := func(from, parent int, h literal.Header, want string, wantNext int) {
		t.Helper()
		if content, next := literal.Read(l, from, parent, h); content != want || next != wantNext {
			t.Errorf("from %d below %d by %v: %q %d, not %q %d", from, parent, h, content, next, want, wantNext)
		}
	}
	for _, from := range []int{-1, -5, math.MinInt} {
		read(from, 0, clip, "a\n b\n", 3)
	}
	for _, from := range []int{4, 5, 100, math.MaxInt} {
		read(from, 0, keep, "", 4)
		read(from, 0, told(2), "", 4)
	}
	for _, parent := range []int{-1, -2, math.MinInt} {
		read(0, parent, clip, "a\n b\n", 3)
		read(0, parent, told(1), " a\n  b\n", 3)
	}
	for _, indent := range []int{-1, 10, 11, math.MinInt, math.MaxInt} {
		read(0, 0, literal.Header{Indent: indent}, "a\n b\n", 3)
		read(0, 1, literal.Header{Indent: indent, Chomp: literal.Keep}, "a\n b\n\n", 3)
	}
	for _, chomp := range []int{-1, 3, math.MinInt, math.MaxInt} {
		read(0, 0, literal.Header{Chomp: chomp}, "a\n b\n", 3)
		read(2, 0, literal.Header{Chomp: chomp}, "", 3)
	}
	for _, parent := range []int{math.MaxInt, math.MaxInt - 9, 65537} {
		read(0, parent, clip, "", 0)
		read(0, parent, told(9), "", 0)
		read(2, parent, keep, "\n", 3)
	}
}

// P6.2: a parent is at most 65536.
func TestReadGreatParent(t *testing.T) {
	l := []text.Line{{Indent: 65537, Text: "a"}, {Indent: 65538, Text: "b"}}
	for _, parent := range []int{65536, 65537, 65538, math.MaxInt} {
		if content, next := literal.Read(l, 0, parent, clip); content != "a\n b\n" || next != 2 {
			t.Errorf("below %d: %q %d", parent, content, next)
		}
		if content, next := literal.Read(l, 0, parent, told(1)); content != "a\n b\n" || next != 2 {
			t.Errorf("below %d by 1: %q %d", parent, content, next)
		}
		if content, next := literal.Read(l, 0, parent, told(2)); content != "" || next != 0 {
			t.Errorf("below %d by 2: %q %d", parent, content, next)
		}
	}
	if content, next := literal.Read(l, 0, 65535, told(1)); content != " a\n  b\n" || next != 2 {
		t.Errorf("below 65535: %q %d", content, next)
	}
	if content, next := literal.Read([]text.Line{{Indent: 65536, Text: "a"}}, 0, math.MaxInt, clip); content != "" || next != 0 {
		t.Errorf("as far as the parent: %q %d", content, next)
	}
}

// P6.2: lines that no text has.
func TestReadMadeLines(t *testing.T) {
	cases := []struct {
		l       []text.Line
		h       literal.Header
		content string
		next    int
	}{
		{[]text.Line{{Indent: math.MaxInt, Text: "a"}, {Indent: math.MaxInt, Text: "b"}}, clip, "a\nb\n", 2},
		{[]text.Line{{Indent: math.MaxInt, Text: "a"}, {Indent: math.MaxInt - 1, Text: "b"}}, clip, "a\n", 1},
		{[]text.Line{{Indent: math.MinInt, Text: "a"}}, clip, "", 0},
		{[]text.Line{{Indent: math.MinInt, Text: "a"}}, told(9), "", 0},
		{[]text.Line{{Indent: math.MinInt}, {Indent: -1}, {Indent: 1, Text: "a"}}, clip, "\n\na\n", 3},
		{[]text.Line{{Indent: math.MaxInt}, {Indent: math.MinInt}}, keep, "\n\n", 2},
		{[]text.Line{{At: 7, Indent: 1, Text: "\n"}, {At: -1, Indent: 2, Text: "\n"}, {}}, strip, "\n\n \n", 3},
		{[]text.Line{{At: 7, Indent: 1, Text: "\n"}, {At: -1, Indent: 2, Text: "\n"}, {}}, keep, "\n\n \n\n\n", 3},
		{[]text.Line{{Indent: 1, Text: "  a"}, {Indent: 1, Text: "   "}}, clip, "  a\n   \n", 2},
		{[]text.Line{{Indent: 0, Text: "   a"}}, clip, "", 0},
	}
	for _, c := range cases {
		if content, next := literal.Read(c.l, 0, 0, c.h); content != c.content || next != c.next {
			t.Errorf("%v by %v: %q %d, not %q %d", c.l, c.h, content, next, c.content, c.next)
		}
	}
}

// R1: more blanks than an answer may have are no reason to panic.
func TestReadEnds(t *testing.T) {
	l := []text.Line{{Indent: 1, Text: "a"}, {Indent: math.MaxInt, Text: "b"}, {Indent: math.MaxInt - 1}}
	for chomp := range 3 {
		if _, next := literal.Read(l, 0, 0, literal.Header{Indent: 1, Chomp: chomp}); next != 3 {
			t.Errorf("%d: %d", chomp, next)
		}
	}
}

// R3: the lines that are handed in, and the room behind them, stay as they are.
func TestReadChangesNothing(t *testing.T) {
	room := text.Lines("a: |\n\n  b\n\n  c\n   \nd\n")
	want := slices.Clone(room)
	for chomp := range 3 {
		literal.Read(room[:3], 1, 0, literal.Header{Chomp: chomp})
		literal.Read(room, 1, 0, literal.Header{Indent: 1, Chomp: chomp})
	}
	if !slices.Equal(room, want) {
		t.Errorf("%v, not %v", room, want)
	}
}

// P6.2: many lines, and long ones.
func TestReadLong(t *testing.T) {
	rows := strings.Repeat("  a\n", 100000)
	want := strings.Repeat("a\n", 100000)
	if content, next := literal.Read(text.Lines(rows+"b\n"), 0, 0, clip); content != want || next != 100000 {
		t.Error(len(content), next)
	}
	feeds := strings.Repeat("\n", 100000)
	if content, next := literal.Read(text.Lines(feeds), 0, 0, keep); content != feeds || next != 100000 {
		t.Error(len(content), next)
	}
	row := blanks(200000) + "a"
	if content, next := literal.Read(text.Lines(row), 0, 0, told(1)); content != row[1:]+"\n" || next != 1 {
		t.Error(len(content), next)
	}
}

// slowRead is a literal's content as the words say it, of lines whose texts have no line feeds.
func slowRead(l []text.Line, from, parent int, h literal.Header) (string, int) {
	for from < 0 {
		from++
	}
	parent = max(parent, 0)
	n, ok := parent+h.Indent, h.Indent > 0
	if h.Indent == 0 {
		i := slices.IndexFunc(l[min(from, len(l)):], func(x text.Line) bool { return x.Text != "" })
		ok = i >= 0 && l[from+i].Indent > parent
		if ok {
			n = l[from+i].Indent
		}
	}
	content := ""
	next := min(from, len(l))
	for next < len(l) && (l[next].Text == "" || ok && l[next].Indent >= n) {
		whole := blanks(l[next].Indent) + l[next].Text
		if ok && len(whole) > n {
			content += whole[n:]
		}
		content += "\n"
		next++
	}
	switch {
	case h.Chomp == literal.Keep:
		return content, next
	case h.Chomp == literal.Strip || strings.Trim(content, "\n") == "":
		return strings.TrimRight(content, "\n"), next
	}
	return strings.TrimRight(content, "\n") + "\n", next
}

// P6.2: every short text, from every line on.
func TestReadShort(t *testing.T) {
	for s := range short.Texts(7, "\n", " ", "a") {
		l := text.Lines(s)
		for from := -1; from <= len(l)+1; from++ {
			for parent := -1; parent <= 2; parent++ {
				for indent := range 4 {
					for chomp := range 3 {
						h := literal.Header{Indent: indent, Chomp: chomp}
						content, next := literal.Read(l, from, parent, h)
						want, wantNext := slowRead(l, from, parent, h)
						if content != want || next != wantNext {
							t.Fatalf("%q from %d below %d by %v: %q %d, not %q %d", s, from, parent, h, content, next, want, wantNext)
						}
					}
				}
			}
		}
	}
}

// P6.3
func TestFits(t *testing.T) {
	for _, s := range []string{
		"a\n", "a\nb", "a\n\n", "a\n\n\n\n", "a\n\nb", "a\n b\n", "a\n\n   b", "a b\nc",
		"#\n", "---\n---\n", "|\n", "é€\n\U00010000", "\ufffd\n", "\u00a0\n\u00a0",
		strings.Repeat("a", 1<<20) + "\n", strings.Repeat("a\n", 1<<17),
	} {
		if !literal.Fits(s) {
			t.Errorf("%.40q: doesn't fit", s)
		}
	}
	for _, s := range []string{
		"", "a", " ", "\n", "\n\n", "\na\n", " a\n", "   \na", " \n", "a b",
		"a \n", "a\nb ", "a\n ", "a\n \n", "a\n   \nb", "a\n\n ", "a \nb\n",
		"\ta\n", "a\t\n", "a\n\t", "a\r\n", "\x00\n", "a\n\x7f", "\u0085\n", "a\n\u0085", "\ufeffa\n", "a\n\ufffe",
		"\xff\n", "a\xc3\n", "a\n\xa9", "a\xc3\n\xa9", "\xed\xa0\x80\n", "\xc0\xa0\n", "\xf4\x90\x80\x80\n",
		strings.Repeat("a\n", 1<<17) + "\xff", strings.Repeat("a\n", 1<<17) + "b ", strings.Repeat("a", 1<<20),
	} {
		if literal.Fits(s) {
			t.Errorf("%.40q: fits", s)
		}
	}
}

// P6.3: every character that UTF-8 has.
func TestFitsCharacters(t *testing.T) {
	for r := rune(0); r <= utf8.MaxRune; r++ {
		if !utf8.ValidRune(r) {
			continue
		}
		c := string(r)
		sign := !text.Check(c).Bad()
		if got, want := literal.Fits(c+"\n"), sign && c != " " && c != "\n"; got != want {
			t.Fatalf("%X at the beginning: %v", r, got)
		}
		if got := literal.Fits("a\né" + c + "x"); got != sign {
			t.Fatalf("%X: %v", r, got)
		}
	}
}

// P6.3: each short text, held against the words.
func TestFitsShort(t *testing.T) {
	for s := range short.Texts(5, "\n", " ", "a", "é", "\xc3", "\xa9", "\t") {
		want := strings.Contains(s, "\n") && strings.Trim(s[:1], " \n") != "" && !text.Check(s).Bad()
		for _, row := range strings.Split(s, "\n") {
			want = want && !strings.HasSuffix(row, " ")
		}
		if got := literal.Fits(s); got != want {
			t.Fatalf("%q: %v", s, got)
		}
	}
}

// P6.3
func TestWrite(t *testing.T) {
	cases := []struct {
		s      string
		indent int
		header string
		rows   []string
	}{
		{"a\nb\n", 2, "|", []string{"  a", "  b"}},
		{"a\nb", 2, "|-", []string{"  a", "  b"}},
		{"a\nb\n\n", 2, "|+", []string{"  a", "  b", ""}},
		{"a\n\n\n\n", 1, "|+", []string{" a", "", "", ""}},
		{"a\n\nb", 3, "|-", []string{"   a", "", "   b"}},
		{"a\n b\n", 1, "|", []string{" a", "  b"}},
		{"a\n", 0, "|", []string{"a"}},
		{"# a\n---\n", 1, "|", []string{" # a", " ---"}},
		// Those that don't fit, too.
		{"", 2, "|-", nil},
		{"a", 2, "|-", []string{"  a"}},
		{"\n", 2, "|", []string{""}},
		{"\n\n", 2, "|+", []string{"", ""}},
		{"\na", 2, "|-", []string{"", "  a"}},
		{" a\n", 2, "|", []string{"   a"}},
		{"a \n  \n", 1, "|", []string{" a ", "   "}},
		{"a\n ", 1, "|-", []string{" a", "  "}},
		{"\t\xff\r\n\x00", 1, "|-", []string{" \t\xff\r", " \x00"}},
		// Indentations beyond the ends.
		{"a\n\nb", -1, "|-", []string{"a", "", "b"}},
		{"a\n\nb", math.MinInt, "|-", []string{"a", "", "b"}},
		{"a\n\n b", 999, "|-", []string{blanks(999) + "a", "", blanks(1000) + "b"}},
		{"a\n\n b", 1000, "|-", []string{blanks(1000) + "a", "", blanks(1001) + "b"}},
		{"a\n\n b", 1001, "|-", []string{blanks(1000) + "a", "", blanks(1001) + "b"}},
		{"a\n\n b", math.MaxInt, "|-", []string{blanks(1000) + "a", "", blanks(1001) + "b"}},
	}
	for _, c := range cases {
		header, rows := literal.Write(c.s, c.indent)
		if header != c.header || !slices.Equal(rows, c.rows) {
			t.Errorf("%q by %d: %q %q, not %q %q", c.s, c.indent, header, rows, c.header, c.rows)
		}
	}
}

// P6.3: of every short text, the lines without the indentation are the text.
func TestWriteShort(t *testing.T) {
	for s := range short.Texts(6, "\n", " ", "a", "\xff") {
		header, rows := literal.Write(s, 2)
		want := map[bool]string{true: "|", false: "|-"}[strings.HasSuffix(s, "\n")]
		if strings.HasSuffix(s, "\n\n") {
			want = "|+"
		}
		back := ""
		for _, row := range rows {
			body, ok := strings.CutPrefix(row, "  ")
			if ok != (row != "") || ok && body == "" {
				t.Fatalf("%q: %q", s, rows)
			}
			back += body + "\n"
		}
		if header != want || back != s && back != s+"\n" || back != s && strings.HasSuffix(s, "\n") {
			t.Fatalf("%q: %q %q", s, header, rows)
		}
	}
}

// back tests that a text that fits is read as it was written, by an indentation, below a parent, with rows behind it.
func back(t *testing.T, s string, indent, parent int, behind string) {
	t.Helper()
	header, rows := literal.Write(s, indent)
	h, next, ok := literal.ReadHeader("- "+header, 2)
	if !ok || next != 2+len(header) || h.Indent != 0 {
		t.Fatalf("%q: header %q", s, header)
	}
	whole := "- " + header + "\n" + strings.Join(rows, "\n") + "\n" + behind
	content, next := literal.Read(text.Lines(whole), 1, parent, h)
	if content != s || next != 1+len(rows) {
		t.Fatalf("%q below %d: %q %d, not %q %d", whole, parent, content, next, s, 1+len(rows))
	}
}

// P6.4: every short text that fits, among it ends of all kinds.
func TestBack(t *testing.T) {
	fit := 0
	for s := range short.Texts(6, "\n", " ", "a", "#", "---", "é") {
		if !literal.Fits(s) {
			continue
		}
		fit++
		for indent := 1; indent <= 3; indent++ {
			for parent := -1; parent < indent; parent++ {
				back(t, s, indent, parent, "")
				back(t, s, indent, parent, "b")
				back(t, s, indent, parent, "---\n"+blanks(indent)+"b\n")
				back(t, s, indent, parent, blanks(indent-1)+"# b\n\n"+blanks(indent)+"b\n")
			}
		}
	}
	if fit < 1000 {
		t.Errorf("only %d texts fit", fit)
	}
}

// P6.4: by great indentations, and long texts.
func TestBackLong(t *testing.T) {
	for _, s := range []string{"a\n", "a\n\n b", "a\n\n\n"} {
		back(t, s, 1000, 999, blanks(999)+"b\n")
		back(t, s, 1000, -5, blanks(999)+"b\n")
		back(t, s, math.MaxInt, 999, "b\n")
	}
	for _, end := range []string{"a", "", "\n", "\n\n\n"} {
		back(t, strings.Repeat("a\n\n  b\n", 30000)+end, 4, 3, "   b\n")
	}
}

// The chapter's example 1.
func TestExample(t *testing.T) {
	header, rows := literal.Write("a\nb\n", 2)
	if header != "|" || !slices.Equal(rows, []string{"  a", "  b"}) {
		t.Error(header, rows)
	}
}
