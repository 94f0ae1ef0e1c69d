package style_test

import (
	"math/rand"
	"regexp"
	"strings"
	"testing"
	"unicode/utf8"

	"stanhope/graph"
	"stanhope/literal"
	"stanhope/load"
	"stanhope/quote"
	"stanhope/resolve"
	"stanhope/short"
	"stanhope/style"
)

var (
	easy  = regexp.MustCompile(`^[A-Za-z_][-A-Za-z0-9_./]*$`)
	shown = regexp.MustCompile(`^[ -~\x{A0}-\x{D7FF}\x{E000}-\x{FEFE}\x{FF00}-\x{FFFD}\x{10000}-\x{10FFFF}]*$`)
	fits  = regexp.MustCompile(`^[^ \n]`)
)

// isShown says whether a text is shown.
func isShown(s string) bool { return utf8.ValidString(s) && shown.MatchString(s) }

// isFit says whether a text may be a literal.
func isFit(s string) bool {
	if !strings.Contains(s, "\n") || !fits.MatchString(s) {
		return false
	}
	for _, l := range strings.Split(s, "\n") {
		if !isShown(l) || strings.HasSuffix(l, " ") {
			return false
		}
	}
	return true
}

// form is the form of a scalar that may be, in the words of the chapter.
func form(tag, s string) style.Form {
	plain := map[bool]string{true: tag}[resolve.Own(tag)]
	if plain == "" {
		plain, _ = resolve.Of(s)
	}
	switch {
	case tag == "null" || tag == "bool" || tag == "int":
		return style.Plain
	case isFit(s):
		return style.Literal
	case easy.MatchString(s) && plain == tag:
		return style.Plain
	case isShown(s):
		return style.Single
	}
	return style.Double
}

// laid is a scalar, written, in the words of the chapter: its row and its lines, each with a line feed behind it.
func laid(tag, s string, indent int) string {
	head, lines := s, []string(nil)
	switch f := form(tag, s); {
	case tag == "null":
		head = "null"
	case f == style.Single:
		head = quote.Single(s)
	case f == style.Double:
		head = quote.Double(s)
	case f == style.Literal:
		head, lines = literal.Write(s, indent)
	}
	if strings.HasPrefix(tag, "!") {
		head = tag + " " + head
	}
	return strings.Join(append([]string{head}, lines...), "\n") + "\n"
}

// text is a scalar, as Write writes it, each line with a line feed behind it; it checks that all of it is shown.
func text(t *testing.T, tag, s string, indent int) string {
	t.Helper()
	head, lines := style.Write(tag, s, indent)
	all := append([]string{head}, lines...)
	for _, l := range all {
		if !isShown(l) {
			t.Fatalf("%s %q: %q isn't shown", tag, s, l)
		}
	}
	return strings.Join(all, "\n") + "\n"
}

// same holds a scalar that may be against the chapter's words, and what is written against what is loaded of it.
func same(t *testing.T, tag, s string) {
	t.Helper()
	if got, want := style.Of(tag, s), form(tag, s); got != want {
		t.Fatalf("%s %q: form %d, not %d", tag, s, got, want)
	}
	for _, indent := range []int{0, 1, 2, 7} {
		got := text(t, tag, s, indent)
		if want := laid(tag, s, indent); got != want {
			t.Fatalf("%s %q by %d: %q, not %q", tag, s, indent, got, want)
		}
		if indent == 0 {
			continue
		}
		d, f := load.One(got)
		if f.Bad() || len(d.Nodes) != 1 || d.Nodes[0].Kind != graph.Scalar || d.Nodes[0].Tag != tag || d.Nodes[0].Text != s {
			t.Fatalf("%s %q by %d: %q is loaded as %v, %v at %d", tag, s, indent, got, d.Nodes, f, f.At)
		}
	}
}

// sameKey holds a key against the chapter's words, and what is written against what is loaded of it.
func sameKey(t *testing.T, s string) {
	t.Helper()
	want := quote.Double(s)
	if easy.MatchString(s) {
		want = s
	} else if isShown(s) {
		want = quote.Single(s)
	}
	got := style.Key(s)
	if got != want || !isShown(got) {
		t.Fatalf("key %q: %q, not %q", s, got, want)
	}
	if !utf8.ValidString(s) || len(s) > 1024 {
		return
	}
	d, f := load.One(got + ": a\n")
	if f.Bad() || len(d.Nodes) != 2 || len(d.Nodes[0].Keys) != 1 || d.Nodes[0].Keys[0] != s {
		t.Fatalf("key %q: %q is loaded as %v, %v at %d", s, got, d.Nodes, f, f.At)
	}
}

// ask holds a text as the content of each tag with which it may be, and as a key.
func ask(t *testing.T, s string) {
	t.Helper()
	for _, tag := range []string{"null", "bool", "int", "str", "!a", "!null", "!-_9"} {
		if resolve.Right(tag, s) {
			same(t, tag, s)
		}
	}
	sameKey(t, s)
}

// P13.1 to P13.3: every short text of these parts.
func TestShort(t *testing.T) {
	sets := []struct {
		n     int
		parts []string
	}{
		{6, []string{"a", " ", "\n", "#", "-"}},
		{5, []string{"a", "'", "\"", "\\", "\n", "n"}},
		{4, []string{"a", "_", "Z", "0", "9", "-", ".", "/", ":", "~"}},
		{4, []string{"a", "\t", "\x00", "é", "\ufeff", "\n", "\U00010000", "\u0085"}},
		{4, []string{"null", "true", "false", "1", "0", "-", "~", "\n", " "}},
		{3, []string{"a", ":", " ", "#", "[", "]", "{", "}", ",", "&", "*", "!", "|", ">", "%", "@", "`", "?", "---", "\n"}},
		{4, []string{"a", "\xff", "\xc3", "\xa9", "\n", " "}},
	}
	for _, set := range sets {
		for s := range short.Texts(set.n, set.parts...) {
			ask(t, s)
		}
	}
}

// P13.1 to P13.3: every character that there is, alone and among others.
func TestCharacters(t *testing.T) {
	for r := range rune(utf8.MaxRune + 1) {
		// Those of the same look far from any bound are asked by turns.
		far := r > 0x300 && r < 0xD700 || r > 0x10010 && r < 0x10FFF0
		if !utf8.ValidRune(r) || far && r%61 != 0 {
			continue
		}
		c := string(r)
		for _, s := range []string{c, "a" + c, c + "\na", "a\n" + c} {
			same(t, "str", s)
			same(t, "!a", s)
		}
		sameKey(t, c)
		sameKey(t, "a"+c)
	}
}

// P13.1 to P13.3: long texts, as they fall.
func TestLong(t *testing.T) {
	r := rand.New(rand.NewSource(13))
	parts := []string{"a", "b", "0", "_", "-", ".", "/", "\n", " ", "'", "\"", "\\", "é", "\t", "\x7f"}
	met := map[style.Form]int{}
	for range 20000 {
		l := parts[:1+r.Intn(len(parts))]
		var b strings.Builder
		for range r.Intn(40) {
			b.WriteString(l[r.Intn(len(l))])
		}
		s := b.String()
		ask(t, s)
		met[style.Of("str", s)]++
	}
	for f := style.Plain; f <= style.Literal; f++ {
		if met[f] < 500 {
			t.Error(met)
		}
	}
	for _, p := range []string{"a", "'", "\"", "\\", " ", "\n", "\x01", "a\n", "a \n", "é", "\ufeff", "\n\n"} {
		s := "a" + strings.Repeat(p, 1024)
		for n := 1010; n <= 1024; n++ {
			ask(t, strings.ToValidUTF8(s[:n], ""))
		}
	}
}
