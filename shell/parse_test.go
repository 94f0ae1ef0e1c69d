package shell_test

import (
	"math/rand"
	"reflect"
	"regexp"
	"slices"
	"strconv"
	"strings"
	"testing"
	"unicode/utf8"

	"stanhope/api"
	"stanhope/shell"
	"stanhope/short"
	"stanhope/strew"
)

// falling makes what falls by a number.
func falling(seed int64) strew.Maker { return strew.New(rand.New(rand.NewSource(seed)).Intn) }

// command is a command of a word, and names with blanks between.
func command(word, names string) shell.Command {
	return shell.Command{Word: word, Names: strings.Fields(names)}
}

// let is a command that lets a name be a text.
func let(name, text string) shell.Command {
	return shell.Command{Word: "let", Names: []string{name}, Text: text}
}

// counts are how many names each word's commands have.
var counts = map[string]int{
	"let": 1, "show": 1, "check": 1, "get": 3, "put": 4, "create": 3, "canon": 2, "fold": 2, "tree": 2,
	"same": 2, "alike": 2, "diff": 2, "size": 1, "audit": 3,
}

// words are all words, in order.
func words() []string {
	var l []string
	for w := range counts {
		l = append(l, w)
	}
	slices.Sort(l)
	return l
}

// equal says whether commands are alike; nil and empty lists are one.
func equal(l, want []shell.Command) bool {
	return slices.EqualFunc(l, want, func(c, d shell.Command) bool {
		return c.Word == d.Word && slices.Equal(c.Names, d.Names) && c.Text == d.Text
	})
}

// parsed holds what is parsed of a script.
func parsed(t *testing.T, s string, want ...shell.Command) {
	t.Helper()
	l, line, e := shell.Parse(s)
	if !equal(l, want) || line != 0 || e != api.OK {
		t.Errorf("%.200q: %v, %v at %d, not %v", s, l, e, line, want)
	}
}

// refused holds the error of a script.
func refused(t *testing.T, s string, e api.Errno, line int) {
	t.Helper()
	if l, at, got := shell.Parse(s); len(l) != 0 || got != e || at != line {
		t.Errorf("%.200q: %v, %v at %d, not %v at %d", s, l, got, at, e, line)
	}
}

// P28.1: the commands of scripts.
func TestParse(t *testing.T) {
	name := strings.Repeat("n", 32)
	for _, c := range []struct {
		s    string
		want []shell.Command
	}{
		{"", nil},
		{"\n \n# show\n  # x\n   ", nil},
		{"show a", []shell.Command{command("show", "a")}},
		{"show a\n", []shell.Command{command("show", "a")}},
		{"\n  show a\n#\n   put a B _ -\n", []shell.Command{command("show", "a"), command("put", "a B _ -")}},
		{"show show\nsize size\nlet let \"let\"", []shell.Command{command("show", "show"), command("size", "size"), let("let", "let")}},
		{"get 0 1 2\ncreate a-b c_d 9", []shell.Command{command("get", "0 1 2"), command("create", "a-b c_d 9")}},
		{"show " + name, []shell.Command{command("show", name)}},
		{"same a a", []shell.Command{command("same", "a a")}},
		// Texts: what is between the marks, and escapes.
		{`let a ""`, []shell.Command{let("a", "")}},
		{`  let a "  # x: y  "`, []shell.Command{let("a", "  # x: y  ")}},
		{`let a "\"\\\n\t\x41\u00e9é\u2028"`, []shell.Command{let("a", "\"\\\n\tAéé\u2028")}},
		{"let a \"\t\r\x00\xff\xc3\"", []shell.Command{let("a", "\t\r\x00\xff\xc3")}},
		{`let a "show b"` + "\nshow a", []shell.Command{let("a", "show b"), command("show", "a")}},
		{`let a "` + strings.Repeat("x", 1024) + `"`, []shell.Command{let("a", strings.Repeat("x", 1024))}},
		{`let a "` + strings.Repeat(`\u2028`, 341) + `x"`, []shell.Command{let("a", strings.Repeat("\u2028", 341)+"x")}},
	} {
		parsed(t, c.s, c.want...)
	}
	for _, w := range words() {
		if w != "let" {
			names := strings.Fields("a b c d")[:counts[w]]
			parsed(t, "show x\n "+w+" "+strings.Join(names, " "), command("show", "x"), command(w, strings.Join(names, " ")))
		}
	}
}

// P28.1: lines that are no commands, and at which line.
func TestParseFault(t *testing.T) {
	for _, c := range []struct {
		line string
		e    api.Errno
	}{
		// The word is what stands ahead of the first blank.
		{"x", api.ErrName},
		{"---", api.ErrName},
		{"Show a", api.ErrName},
		{"SHOW a", api.ErrName},
		{"shows a", api.ErrName},
		{"sho a", api.ErrName},
		{"show\ta", api.ErrName},
		{"\tshow a", api.ErrName},
		{"show\r", api.ErrName},
		{"show# a", api.ErrName},
		{"\"show\" a", api.ErrName},
		{"let\"x\"", api.ErrName},
		{"\xff", api.ErrName},
		{"\x00", api.ErrName},
		{"error a", api.ErrName},
		{"a show", api.ErrName},
		// Names: as many, one blank ahead of each, nothing else.
		{"show", api.ErrForm},
		{"show ", api.ErrForm},
		{"show  a", api.ErrForm},
		{"show a ", api.ErrForm},
		{"show a b", api.ErrForm},
		{"show a # x", api.ErrForm},
		{"show a\r", api.ErrForm},
		{"show a\t", api.ErrForm},
		{"show \"a\"", api.ErrForm},
		{"show a.b", api.ErrForm},
		{"show é", api.ErrForm},
		{"show \xff", api.ErrForm},
		{"show " + strings.Repeat("n", 33), api.ErrForm},
		{"same a", api.ErrForm},
		{"same a  b", api.ErrForm},
		{"same a b ", api.ErrForm},
		{"same a,b", api.ErrForm},
		{"put a b c", api.ErrForm},
		{"put a b c d e", api.ErrForm},
		{"get a b c d", api.ErrForm},
		{"show a \"x\"", api.ErrForm},
		// Texts.
		{"let", api.ErrForm},
		{"let ", api.ErrForm},
		{"let a", api.ErrForm},
		{"let a ", api.ErrForm},
		{"let \"x\"", api.ErrForm},
		{"let  a \"x\"", api.ErrForm},
		{"let a  \"x\"", api.ErrForm},
		{"let a b \"x\"", api.ErrForm},
		{"let a\"x\"", api.ErrForm},
		{"let a x", api.ErrForm},
		{"let a 'x'", api.ErrForm},
		{"let a \"x", api.ErrForm},
		{"let a \"", api.ErrForm},
		{"let a \"x\" ", api.ErrForm},
		{"let a \"x\"y", api.ErrForm},
		{"let a \"x\" # y", api.ErrForm},
		{"let a \"x\" \"y\"", api.ErrForm},
		{"let a \"\\q\"", api.ErrForm},
		{"let a \"\\x4\"", api.ErrForm},
		{"let a \"\\ud800\"", api.ErrForm},
		{"let a \"x\\\"", api.ErrForm},
		{"let a.b \"x\"", api.ErrForm},
		{"let " + strings.Repeat("n", 33) + " \"x\"", api.ErrForm},
		{"let a \"" + strings.Repeat("x", 1025) + "\"", api.ErrForm},
		{"let a \"" + strings.Repeat("\\u2028", 342) + "\"", api.ErrForm},
	} {
		refused(t, c.line, c.e, 0)
		if !strings.HasPrefix(c.line, "---") {
			refused(t, "  "+c.line+"\n", c.e, 0)
		}
		refused(t, "show a\n\n# x\n"+c.line+"\nshow b\n", c.e, 3)
		// The first line is told, whatever stands behind it.
		refused(t, c.line+"\nx\nshow\n", c.e, 0)
		refused(t, "\n\nshow a\n  \n"+c.line+"\n"+strings.Repeat("show a\n", 500), c.e, 4)
	}
	for _, w := range words() {
		names := ""
		for n := range 6 {
			if n != counts[w] || w == "let" {
				refused(t, w+names, api.ErrForm, 0)
			}
			if n != counts[w] || w != "let" {
				refused(t, w+names+" \"\"", api.ErrForm, 0)
			}
			names += " n"
		}
	}
}

// P28.1: as many bytes, and commands, as there may be, and one more; which error is the first.
func TestParseLimits(t *testing.T) {
	show := command("show", "a")
	long := "show a\n#" + strings.Repeat("x", 65536-8)
	parsed(t, long, show)
	refused(t, long+"x", api.ErrSize, 0)
	refused(t, "x\n"+long, api.ErrSize, 0)
	refused(t, strings.Repeat("\n", 65537), api.ErrSize, 0)
	parsed(t, strings.Repeat("\n", 65536))
	refused(t, strings.Repeat("\n", 65535)+"x", api.ErrName, 65535)
	many := strings.Repeat("show a\n", 400)
	parsed(t, many, slices.Repeat([]shell.Command{show}, 400)...)
	parsed(t, "# x\n"+many+"\n  \n# show a\n", slices.Repeat([]shell.Command{show}, 400)...)
	refused(t, many+"show a", api.ErrMany, 400)
	refused(t, "\n# x\n"+many+"\n  show a\nx", api.ErrMany, 403)
	refused(t, many+"let a \"x\"\n", api.ErrMany, 400)
	refused(t, many+"x\n", api.ErrName, 400)
	refused(t, many+"show\n", api.ErrForm, 400)
	refused(t, many+"show a\nx\n", api.ErrMany, 400)
	refused(t, "show\n"+many+"x\n", api.ErrForm, 0)
	refused(t, strings.Repeat("show a\n", 5000)+"x", api.ErrMany, 400)
}

// forms are what lines of all words look like, behind the word.
var forms = func() map[string]*regexp.Regexp {
	const name = " ([0-9A-Za-z_-]{1,32})"
	m := make(map[string]*regexp.Regexp)
	for w, n := range counts {
		m[w] = regexp.MustCompile("^" + strings.Repeat(name, n) + "$")
	}
	m["let"] = regexp.MustCompile("(?s)^" + name + ` "((?:[^"\\]|\\["\\nt]|\\x[0-9a-fA-F]{2}|\\u[0-9a-fA-F]{4})*)"$`)
	return m
}()

// escapes are those of texts between marks.
var escapes = regexp.MustCompile(`(?s)\\(x..|u....|.)`)

// escaped is the text of what stands between two marks, and whether no escape has the number of half a character.
func escaped(s string) (string, bool) {
	ok := true
	return escapes.ReplaceAllStringFunc(s, func(x string) string {
		switch x[1] {
		case 'n':
			return "\n"
		case 't':
			return "\t"
		case 'x', 'u':
			n, _ := strconv.ParseInt(x[2:], 16, 32)
			ok = ok && utf8.ValidRune(rune(n))
			return string(rune(n))
		}
		return x[1:]
	}), ok
}

// slowParse reads a script by expressions.
func slowParse(s string) ([]shell.Command, int, api.Errno) {
	if len(s) > 65536 {
		return nil, 0, api.ErrSize
	}
	var l []shell.Command
	for i, line := range strings.Split(s, "\n") {
		line = strings.TrimLeft(line, " ")
		if line == "" || line[0] == '#' {
			continue
		}
		word := strings.Split(line, " ")[0]
		form, ok := forms[word]
		if !ok {
			return nil, i, api.ErrName
		}
		m := form.FindStringSubmatch(line[len(word):])
		if m == nil {
			return nil, i, api.ErrForm
		}
		c := shell.Command{Word: word, Names: m[1:]}
		if word == "let" {
			c.Names = m[1:2]
			c.Text, ok = escaped(m[2])
			if !ok || len(c.Text) > 1024 {
				return nil, i, api.ErrForm
			}
		}
		if len(l) == 400 {
			return nil, i, api.ErrMany
		}
		l = append(l, c)
	}
	return l, 0, api.OK
}

// against holds a script against the slow reading; P28.3: each command's line is parsed as it, if its text is UTF-8.
func against(t *testing.T, s string) api.Errno {
	t.Helper()
	l, line, e := shell.Parse(s)
	want, at, n := slowParse(s)
	if !equal(l, want) || line != at || e != n {
		t.Fatalf("%q: %v, %v at %d, not %v, %v at %d", s, l, e, line, want, n, at)
	}
	for _, c := range l {
		back, line, e := shell.Parse(c.String())
		if utf8.ValidString(c.Text) && (!equal(back, []shell.Command{c}) || line != 0 || e != api.OK) || strings.ContainsAny(c.String(), "\n") || c.String()[0] == ' ' {
			t.Fatalf("%q: %+v is written %q, which is %v, %v at %d", s, c, c.String(), back, e, line)
		}
	}
	return e
}

// P28.1, P28.3: short rows of parts.
func TestParseShort(t *testing.T) {
	met := make(map[api.Errno]int)
	for _, parts := range []string{
		"show| |a|\n|#|\t",
		"let| |a|\"|\\|x|\n",
		"same| a| |-|same|\n|  ",
		" let a \"|\"|\\|n|u|00|41|\n",
		"let a \"|\\\"|\\x|\\u|d8|2|\xff|\"|é",
		"put a| b| c| d|\n| |# ",
	} {
		for s := range short.Texts(6, strings.Split(parts, "|")...) {
			if len(s) > 0 && !strings.HasPrefix(s, "a") {
				met[against(t, s)]++
			}
		}
	}
	if met[api.OK] < 1000 || met[api.ErrName] < 1000 || met[api.ErrForm] < 1000 {
		t.Error(met)
	}
}

// P28.1, P28.3: scripts as they fall.
func TestParseFall(t *testing.T) {
	m, met := falling(281), make(map[api.Errno]int)
	for range 3000 {
		var b strings.Builder
		for range m.Below(6) {
			w := words()[m.Below(len(counts))]
			c := shell.Command{Word: w}
			for range counts[w] {
				c.Names = append(c.Names, []string{"a", "b-", "_", "0", "Zz"}[m.Below(5)])
			}
			if w == "let" {
				for range m.Below(8) {
					c.Text += []string{"a", "\n", "\"", "\\", "\t", "é", "\u2028", "\U0001f600", " ", "\x00", "\x7f", "#", "\u0085"}[m.Below(13)]
				}
			}
			b.WriteString(strings.Repeat(" ", m.Below(2)) + c.String() + "\n" + []string{"", "\n", "# x\n"}[m.Below(3)])
		}
		met[against(t, b.String())]++
		met[against(t, m.Garbled(m.Garbled(b.String())))]++
	}
	if met[api.OK] < 3000 || met[api.ErrName] < 100 || met[api.ErrForm] < 100 {
		t.Error(met)
	}
}

// P28.1: commands as their lines.
func TestString(t *testing.T) {
	for _, c := range []struct {
		c    shell.Command
		want string
	}{
		{command("show", "a"), "show a"},
		{command("put", "a b c d"), "put a b c d"},
		{command("same", "x x"), "same x x"},
		{let("a", ""), `let a ""`},
		{let("a", " x: \"y\"\n\t\\#é\u0085\u2028\x00"), `let a " x: \"y\"\n\t\\#é\x85` + "\u2028" + `\x00"`},
		{let("let", "let"), `let let "let"`},
		{let("a", "\xff"), "let a \"\ufffd\""},
	} {
		if s := c.c.String(); s != c.want {
			t.Errorf("%+v: %q, not %q", c.c, s, c.want)
		}
	}
	for _, w := range words() {
		if w != "let" {
			names := strings.Join(strings.Fields("a b c d")[:counts[w]], " ")
			if s := command(w, names).String(); s != w+" "+names {
				t.Error(s)
			}
		}
	}
	// R1: of others, too, it ends.
	for _, c := range odd() {
		_ = c.String()
	}
}

// odd are commands that Parse doesn't answer.
func odd() []shell.Command {
	l := []shell.Command{
		{},
		{Word: "x", Names: []string{"a"}},
		{Word: "show"},
		{Word: "show", Names: []string{""}},
		{Word: "show", Names: []string{"a "}},
		{Word: "show", Names: []string{" a"}},
		{Word: "show", Names: []string{"é"}},
		{Word: "show", Names: []string{"a", "a"}},
		{Word: "show", Names: []string{"a"}, Text: "x"},
		{Word: "Show", Names: []string{"a"}},
		{Word: "show ", Names: []string{"a"}},
		{Word: " show", Names: []string{"a"}},
		{Word: "same", Names: []string{"a"}},
		{Word: "same", Names: []string{"a a"}},
		{Word: "canon", Names: []string{"b", "a"}, Text: "x"},
		{Word: "canon", Names: []string{"", "a"}},
		{Word: "canon", Names: []string{strings.Repeat("n", 33), "a"}},
		{Word: "get", Names: []string{"b", "l", "a", "a"}},
		{Word: "let"},
		{Word: "let", Text: "x"},
		{Word: "let", Names: []string{"b", "b"}, Text: "x"},
		{Word: "let", Names: []string{"b\n"}, Text: "x"},
		{Word: "let", Names: []string{"b.c"}, Text: "x"},
		{Word: "let", Names: []string{"b"}, Text: strings.Repeat("x", 1025)},
		{Word: "let", Names: slices.Repeat([]string{"b"}, 100000), Text: "x"},
		{Word: "#", Names: []string{"a"}},
		{Word: "---"},
	}
	for _, w := range words() {
		l = append(l, shell.Command{Word: w}, shell.Command{Word: w, Names: slices.Repeat([]string{"a"}, counts[w]+1)}, shell.Command{Word: w, Names: slices.Repeat([]string{"a"}, counts[w]-1)})
	}
	return l
}

// R3: what is handed out is new, and no two lists of it share any.
func TestParseMemory(t *testing.T) {
	const s = "put a b c d\nlet a \"x\"\nsame a b\nget a b c\n"
	want, _, _ := shell.Parse(s)
	l, _, _ := shell.Parse(s)
	for i := range l {
		names := l[i].Names[:cap(l[i].Names)]
		for j := range names {
			names[j] = "written"
		}
		for j, c := range l {
			if j > i && !reflect.DeepEqual(c, want[j]) {
				t.Error(c, want[j])
			}
		}
	}
	if again, _, _ := shell.Parse(s); !reflect.DeepEqual(again, want) {
		t.Error(again)
	}
}
