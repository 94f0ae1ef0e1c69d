package style_test

import (
	"math"
	"slices"
	"strings"
	"testing"

	"stanhope/style"
)

// a is a text of that many a.
func a(n int) string { return strings.Repeat("a", n) }

// row is a scalar and how it is written: its form, and what stands on the row; its
// lines, by an indentation of 2, with line feeds between them.
type row struct {
	tag, content string
	form         style.Form
	head, lines  string
}

// hold holds what Of and Write say of scalars.
func hold(t *testing.T, cases []row) {
	t.Helper()
	for _, c := range cases {
		if got := style.Of(c.tag, c.content); got != c.form {
			t.Errorf("Of(%s, %.60q): %d, not %d", c.tag, c.content, got, c.form)
		}
		head, l := style.Write(c.tag, c.content, 2)
		if lines := strings.Join(l, "\n"); head != c.head || lines != c.lines || (c.form == style.Literal) != (len(l) > 0) {
			t.Errorf("Write(%s, %.60q): %.100q and %.100q, not %.100q and %.100q", c.tag, c.content, head, l, c.head, c.lines)
		}
	}
}

// The chapter's examples.
func TestExamples(t *testing.T) {
	hold(t, []row{
		{"str", "true", style.Single, "'true'", ""},
		{"!a", "true", style.Plain, "!a true", ""},
		{"str", "\n", style.Double, `"\n"`, ""},
	})
}

func TestForms(t *testing.T) {
	if style.Plain != 0 || style.Single != 1 || style.Double != 2 || style.Literal != 3 {
		t.Error(style.Plain, style.Single, style.Double, style.Literal)
	}
}

// P13.1: null, bool and int.
func TestCore(t *testing.T) {
	hold(t, []row{
		{"null", "", style.Plain, "null", ""},
		{"bool", "true", style.Plain, "true", ""},
		{"bool", "false", style.Plain, "false", ""},
		{"int", "0", style.Plain, "0", ""},
		{"int", "-7", style.Plain, "-7", ""},
		{"int", "123456789012345678", style.Plain, "123456789012345678", ""},
		{"int", "-999999999999999999", style.Plain, "-999999999999999999", ""},
	})
}

// P13.1: str, in each form; the first that fits.
func TestStr(t *testing.T) {
	hold(t, []row{
		// Plain.
		{"str", "a", style.Plain, "a", ""},
		{"str", "_", style.Plain, "_", ""},
		{"str", "a.b/c-d_9", style.Plain, "a.b/c-d_9", ""},
		{"str", "Zz", style.Plain, "Zz", ""},
		{"str", "True", style.Plain, "True", ""},
		{"str", "nulls", style.Plain, "nulls", ""},
		{"str", "Null", style.Plain, "Null", ""},
		{"str", "a-", style.Plain, "a-", ""},
		{"str", a(1024), style.Plain, a(1024), ""},
		// Easy, but not str as a plain text.
		{"str", "null", style.Single, "'null'", ""},
		{"str", "false", style.Single, "'false'", ""},
		// Str as a plain text, but not easy.
		{"str", "1a", style.Single, "'1a'", ""},
		{"str", "01", style.Single, "'01'", ""},
		{"str", "-0", style.Single, "'-0'", ""},
		{"str", "1234567890123456789", style.Single, "'1234567890123456789'", ""},
		{"str", ".a", style.Single, "'.a'", ""},
		{"str", "/a", style.Single, "'/a'", ""},
		{"str", "-a", style.Single, "'-a'", ""},
		{"str", "a b", style.Single, "'a b'", ""},
		{"str", "a@b", style.Single, "'a@b'", ""},
		{"str", "é", style.Single, "'é'", ""},
		{"str", "aé", style.Single, "'aé'", ""},
		// Neither.
		{"str", "", style.Single, "''", ""},
		{"str", "~", style.Single, "'~'", ""},
		{"str", "0", style.Single, "'0'", ""},
		{"str", "-12", style.Single, "'-12'", ""},
		{"str", " ", style.Single, "' '", ""},
		{"str", " a ", style.Single, "' a '", ""},
		{"str", "a: b", style.Single, "'a: b'", ""},
		{"str", "- a", style.Single, "'- a'", ""},
		{"str", "# a", style.Single, "'# a'", ""},
		{"str", "[a]", style.Single, "'[a]'", ""},
		{"str", "---", style.Single, "'---'", ""},
		{"str", "|", style.Single, "'|'", ""},
		{"str", "it's", style.Single, "'it''s'", ""},
		{"str", "''", style.Single, "''''''", ""},
		{"str", `"\n"`, style.Single, `'"\n"'`, ""},
		{"str", "\u00a0\ufffd\U00010000\U0010ffff", style.Single, "'\u00a0\ufffd\U00010000\U0010ffff'", ""},
		{"str", strings.Repeat("'", 1024), style.Single, strings.Repeat("'", 2050), ""},
		// Not shown.
		{"str", "a\tb", style.Double, `"a\tb"`, ""},
		{"str", "\x00", style.Double, `"\x00"`, ""},
		{"str", "a\r", style.Double, `"a\x0d"`, ""},
		{"str", "\x7f\u0080\u009f", style.Double, `"\x7f\x80\x9f"`, ""},
		{"str", "\ufeff\ufffe\uffff", style.Double, `"\ufeff\ufffe\uffff"`, ""},
		{"str", "'\"\\\x1f", style.Double, `"'\"\\\x1f"`, ""},
		{"str", strings.Repeat("\x01", 1024), style.Double, `"` + strings.Repeat(`\x01`, 1024) + `"`, ""},
	})
}

// P13.1: literals, and texts with line feeds that don't fit.
func TestLiteral(t *testing.T) {
	hold(t, []row{
		{"str", "a\n", style.Literal, "|", "  a"},
		{"str", "a\nb", style.Literal, "|-", "  a\n  b"},
		{"str", "a\nb\n", style.Literal, "|", "  a\n  b"},
		{"str", "a\n\n", style.Literal, "|+", "  a\n"},
		{"str", "a\n\n\n", style.Literal, "|+", "  a\n\n"},
		{"str", "a\n\nb", style.Literal, "|-", "  a\n\n  b"},
		{"str", "a\n b\n", style.Literal, "|", "  a\n   b"},
		{"str", "true\n", style.Literal, "|", "  true"},
		{"str", "~\n", style.Literal, "|", "  ~"},
		{"str", "# a\n---\n", style.Literal, "|", "  # a\n  ---"},
		{"str", "'é\n\"\\", style.Literal, "|-", "  'é\n  \"\\"},
		{"str", a(1023) + "\n", style.Literal, "|", "  " + a(1023)},
		{"str", "a" + strings.Repeat("\n", 1023), style.Literal, "|+", "  a" + strings.Repeat("\n", 1022)},
		{"!a", "a\n", style.Literal, "!a |", "  a"},
		{"!a", "a\nb", style.Literal, "!a |-", "  a\n  b"},
		{"!a", "a\n\n", style.Literal, "!a |+", "  a\n"},
		{"str", "\na", style.Double, `"\na"`, ""},
		{"str", " a\n", style.Double, `" a\n"`, ""},
		{"str", "a \n", style.Double, `"a \n"`, ""},
		{"str", "a\nb ", style.Double, `"a\nb "`, ""},
		{"str", "a\n \nb", style.Double, `"a\n \nb"`, ""},
		{"str", "a\n\tb", style.Double, `"a\n\tb"`, ""},
		{"str", "a\r\n", style.Double, `"a\x0d\n"`, ""},
		{"str", "a\n\ufeff", style.Double, `"a\n\ufeff"`, ""},
		{"!a", "\n", style.Double, `!a "\n"`, ""},
		{"!a", "a\n\x00", style.Double, `!a "a\n\x00"`, ""},
	})
}

// P13.1: own tags, of which whatever is easy is plain.
func TestOwn(t *testing.T) {
	name := strings.Repeat("t", 32)
	hold(t, []row{
		{"!a", "b", style.Plain, "!a b", ""},
		{"!a", "null", style.Plain, "!a null", ""},
		{"!a", "false", style.Plain, "!a false", ""},
		{"!null", "null", style.Plain, "!null null", ""},
		{"!" + name, "_/", style.Plain, "!" + name + " _/", ""},
		{"!a", a(1024), style.Plain, "!a " + a(1024), ""},
		{"!a", "", style.Single, "!a ''", ""},
		{"!str", "", style.Single, "!str ''", ""},
		{"!a", "0", style.Single, "!a '0'", ""},
		{"!int", "-1", style.Single, "!int '-1'", ""},
		{"!a", "~", style.Single, "!a '~'", ""},
		{"!a", "b c", style.Single, "!a 'b c'", ""},
		{"!a", "it's", style.Single, "!a 'it''s'", ""},
		{"!-", "é", style.Single, "!- 'é'", ""},
		{"!a", "\t", style.Double, `!a "\t"`, ""},
	})
}

// P13.1: the indentation, of a literal's lines alone.
func TestIndent(t *testing.T) {
	cases := []struct{ indent, blanks int }{
		{math.MinInt, 0}, {-1, 0}, {0, 0}, {1, 1}, {3, 3}, {128, 128}, {1000, 1000}, {1001, 1000}, {math.MaxInt, 1000},
	}
	for _, c := range cases {
		indent := strings.Repeat(" ", c.blanks)
		head, l := style.Write("!a", "b\n\n c\n", c.indent)
		if want := []string{indent + "b", "", indent + " c"}; head != "!a |" || !slices.Equal(l, want) {
			t.Errorf("%d: %q and %q, not %q", c.indent, head, l, want)
		}
		for _, s := range []string{"b", "b c", "\t\n"} {
			head, l := style.Write("str", s, c.indent)
			if want, _ := style.Write("str", s, 0); head != want || len(l) > 0 {
				t.Errorf("%d: %q and %q, not %q", c.indent, head, l, want)
			}
		}
	}
}

// P13.2: keys.
func TestKey(t *testing.T) {
	cases := []struct{ key, want string }{
		{"a", "a"},
		{"_x.y/z-0", "_x.y/z-0"},
		{"true", "true"},
		{"null", "null"},
		{a(5000), a(5000)},
		{"", "''"},
		{"1", "'1'"},
		{"~", "'~'"},
		{"-", "'-'"},
		{"a b", "'a b'"},
		{"a:", "'a:'"},
		{"é", "'é'"},
		{"it's", "'it''s'"},
		{`"\`, `'"\'`},
		{"\n", `"\n"`},
		{"a\n", `"a\n"`},
		{"a\nb", `"a\nb"`},
		{"a\"\\\t\x00'", `"a\"\\\t\x00'"`},
		{"\u0085\ufeff", `"\x85\ufeff"`},
		// Bytes that are no UTF-8 count as FFFD.
		{"\xff", "\"\ufffd\""},
		{"a\xc3", "\"a\ufffd\""},
		{"\xed\xa0\x80", "\"\ufffd\ufffd\ufffd\""},
		{strings.Repeat("\x00", 5000), `"` + strings.Repeat(`\x00`, 5000) + `"`},
		{strings.Repeat(" ", 5000), "'" + strings.Repeat(" ", 5000) + "'"},
	}
	for _, c := range cases {
		if got := style.Key(c.key); got != c.want {
			t.Errorf("Key(%.60q): %.60q, not %.60q", c.key, got, c.want)
		}
	}
}

// R1: of scalars that may not be, an end.
func TestEnds(t *testing.T) {
	texts := []string{"", "x", "~", "true", "1", "a\nb", "\n", "\xff", "a\n\xff", "a\xc3\n", a(1025), a(20000) + "\n", strings.Repeat("\n", 20000), strings.Repeat("a\n", 20000)}
	for _, tag := range []string{"", "!", "null", "bool", "int", "str", "seq", "map", "!a", "!a b", "a", "!" + a(33), "\xff", "\n"} {
		for _, s := range texts {
			for _, indent := range []int{math.MinInt, 0, 3, math.MaxInt} {
				style.Of(tag, s)
				style.Write(tag, s, min(indent, 3))
				if len(s) < 5000 {
					style.Write(tag, s, indent)
				}
			}
		}
	}
}

// R5: what is told is the same each time, whatever was written into what was handed out.
func TestAgain(t *testing.T) {
	for range 20 {
		head, l := style.Write("!a", "b\nc\n", 1)
		if head != "!a |" || !slices.Equal(l, []string{" b", " c"}) {
			t.Fatal(head, l)
		}
		l = l[:cap(l)]
		for i := range l {
			l[i] = "written"
		}
	}
}
