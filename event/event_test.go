package event_test

import (
	"fmt"
	"slices"
	"strings"
	"testing"

	"stanhope/api"
	"stanhope/event"
)

// told is a text's documents as the tests write them: each event's sign, its
// place, its anchor, its tag, and its text in marks (by " a Plain's, by ' each
// other one's), and a / between documents; or the fault.
func told(docs [][]event.Event, f api.Fault) string {
	if f != (api.Fault{}) {
		return fmt.Sprintf("%v at %d, %d documents", f, f.At, len(docs))
	}
	all := make([]string, len(docs))
	for i, d := range docs {
		parts := make([]string, len(d))
		for j, e := range d {
			parts[j] = sign(e)
		}
		all[i] = strings.Join(parts, " ")
	}
	return strings.Join(all, " / ")
}

// sign is an event as told writes it.
func sign(e event.Event) string {
	s := fmt.Sprintf("%c%d", "?S*[{.K"[e.Kind], e.At)
	if e.Anchor != "" {
		s += "&" + e.Anchor
	}
	s += e.Tag
	mark := "'"
	if e.Plain {
		mark = `"`
	}
	if e.Kind == event.Scalar || e.Kind == event.Key || e.Plain || e.Text != "" {
		s += mark + e.Text + mark
	}
	return s
}

// asked is what a text's documents are, as told writes it.
func asked(s string) string { return told(event.Docs(s)) }

// wrong is an error as told writes it.
func wrong(e api.Errno, at int) string { return fmt.Sprintf("%v at %d, 0 documents", e, at) }

// a is a text of that many bytes.
func a(n int) string { return strings.Repeat("a", n) }

// blanks are that many blanks.
func blanks(n int) string { return strings.Repeat(" ", n) }

func TestNumbers(t *testing.T) {
	kinds := []int{event.Scalar, event.Alias, event.Seq, event.Map, event.End, event.Key}
	if !slices.Equal(kinds, []int{1, 2, 3, 4, 5, 6}) {
		t.Error(kinds)
	}
}

// The chapter's example 1.
func TestExample(t *testing.T) {
	want := `{0 K0'a' [3 S4"b" .3 .0`
	if got := asked("a: [b]\n"); got != want {
		t.Errorf("%s, not %s", got, want)
	}
}

type good struct{ s, want string }

func hold(t *testing.T, cases []good) {
	for _, c := range cases {
		if got := asked(c.s); got != c.want {
			t.Errorf("%.60q: %.200s, not %.200s", c.s, got, c.want)
		}
	}
}

// P8.1: a text's documents.
func TestDocuments(t *testing.T) {
	hold(t, []good{
		{"", ""},
		{"\n", ""},
		{"  \n\n", ""},
		{"# a\n", ""},
		{"  # a", ""},
		{"a", `S0"a"`},
		{"a\n", `S0"a"`},
		{"\n # b\n a", `S7"a"`},
		{"---", `S3""`},
		{"---\n", `S3""`},
		{"\n---\n", `S4""`},
		{"# a\n---\n# b\n", `S7""`},
		{"---\na", `S4"a"`},
		{"---\n  a", `S6"a"`},
		{"---\n---\n", `S3"" / S7""`},
		{"---\n\n---", `S3"" / S8""`},
		{"a\n---", `S0"a" / S5""`},
		{"a\n---\nb\n---\nc", `S0"a" / S6"b" / S12"c"`},
		{" \n---\na\n\n---\n# b\n---\nc", `S6"a" / S12"" / S21"c"`},
		{"- a\n---\n- b", `[0 S2"a" .0 / [8 S10"b" .8`},
		// What is no marker.
		{" ---", `S1"---"`},
		{"--- ", `S0"---"`},
		{"---a", `S0"---a"`},
		{"----", `S0"----"`},
		{"---: a", `{0 K0'---' S5"a" .0`},
		{"--- # a", `S0"---"`},
		{"a:\n ---", `{0 K0'a' S4"---" .0`},
		// An anchor and a tag of a document, which has nothing else.
		{"&a", `S0&a""`},
		{"---\n!a", `S4!a""`},
		{"---\n\n  &a\n---\n", `S7&a"" / S13""`},
	})
}

// P8.1: scalars and aliases.
func TestScalars(t *testing.T) {
	hold(t, []good{
		{"a b # c", `S0"a b"`},
		{"'a b'", "S0'a b'"},
		{`"\x41" `, "S0'A'"},
		{"''", "S0''"},
		{"*a", "*0'a'"},
		{"&a b", `S0&a"b"`},
		{"!a b", `S0!a"b"`},
		{"&a !b c", `S0&a!b"c"`},
		{"!a &b c", `S0&b!a"c"`},
		{"  !a   &b   'c'  ", "S2&b!a'c'"},
		{"&a ''", "S0&a''"},
		{"&a !b", `S0&a!b""`},
		{"!a &b # c", `S0&b!a""`},
		{"?a", `S0"?a"`},
		{"a:b", `S0"a:b"`},
		{"- *a\n-   *b", "[0 *2'a' *9'b' .0"},
		{"a: *b", "{0 K0'a' *3'b' .0"},
		{a(1024), `S0"` + a(1024) + `"`},
		{"'" + a(1024) + "'", "S0'" + a(1024) + "'"},
		{"é: €", `{0 K0'é' S4"€" .0`},
	})
}

// P8.1: Seqs of blocks.
func TestSeqs(t *testing.T) {
	hold(t, []good{
		{"- a", `[0 S2"a" .0`},
		{"- a\n- b", `[0 S2"a" S6"b" .0`},
		{"  - a\n  - b", `[2 S4"a" S10"b" .2`},
		{"-", `[0 S0"" .0`},
		{"-\n-\n", `[0 S0"" S2"" .0`},
		{"-\n\n  # a\n-\n", `[0 S0"" S9"" .0`},
		{"- # a\n-", `[0 S0"" S6"" .0`},
		{"-\n a", `[0 S3"a" .0`},
		{"-\n   a\n-\n b", `[0 S5"a" S10"b" .0`},
		{"-   a\n-  b", `[0 S4"a" S9"b" .0`},
		// Blocks behind a Dash, in their own columns.
		{"- -", `[0 [2 S2"" .2 .0`},
		{"- - a\n  - b\n- c", `[0 [2 S4"a" S10"b" .2 S14"c" .0`},
		{"-   - a\n    - b", `[0 [4 S6"a" S14"b" .4 .0`},
		{"- -\n   a", `[0 [2 S7"a" .2 .0`},
		{"- - - a\n    - b\n  - c\n- d", `[0 [2 [4 S6"a" S14"b" .4 S20"c" .2 S24"d" .0`},
		{"- a: b\n  c: d\n- e", `[0 {2 K2'a' S5"b" K9'c' S12"d" .2 S16"e" .0`},
		{"- 'a':\n  c:", `[0 {2 K2'a' S2"" K9'c' S9"" .2 .0`},
		{"- - a: b\n    c: d", `[0 [2 {4 K4'a' S7"b" K13'c' S16"d" .4 .2 .0`},
		// Blocks below a Dash.
		{"-\n  - a\n  - b\n- c", `[0 [4 S6"a" S12"b" .4 S16"c" .0`},
		{"-\n  a: b\n  c: d", `[0 {4 K4'a' S7"b" K11'c' S14"d" .4 .0`},
		{"-\n\n # x\n - a", `[0 [9 S11"a" .9 .0`},
		{"- &a\n  - b", `[0 [2&a S9"b" .2 .0`},
		{"- !a\n  b: c", `[0 {2!a K7'b' S10"c" .2 .0`},
		{"- &a\n- !b\n", `[0 S2&a"" S7!b"" .0`},
		{"- &a b\n- !c 'd'", `[0 S2&a"b" S9!c'd' .0`},
		{"-\n  &a b", `[0 S4&a"b" .0`},
		{"-\n  &a\n  - b", `[0 [4&a S11"b" .4 .0`},
		{"-\n  &a\n - b", `[0 [4&a S10"b" .4 .0`},
		{"-\n  &a\n- b", `[0 S4&a"" S9"b" .0`},
		{"-\n   &a !b\n     c:\n- d", `[0 {5&a!b K16'c' S16"" .5 S21"d" .0`},
		{"&a\n- b\n- c", `[0&a S5"b" S9"c" .0`},
		{"!a &b\n   - c", `[0&b!a S11"c" .0`},
		{"  &a\n- b", `[2&a S7"b" .2`},
		{"&a\n\n# b\n- c", `[0&a S10"c" .0`},
		{"- []\n- {}", `[0 [2 .2 {7 .7 .0`},
	})
}

// P8.1: Maps of blocks.
func TestMaps(t *testing.T) {
	hold(t, []good{
		{"a: b", `{0 K0'a' S3"b" .0`},
		{"a: b\nc: d", `{0 K0'a' S3"b" K5'c' S8"d" .0`},
		{"  a: b\n  c: d\n", `{2 K2'a' S5"b" K9'c' S12"d" .2`},
		{"'a': b\n\"c\" : 'd'", `{0 K0'a' S5"b" K7'c' S13'd' .0`},
		{"'': ''", "{0 K0'' S4'' .0"},
		{"a:", `{0 K0'a' S0"" .0`},
		{"a:\nb:\n", `{0 K0'a' S0"" K3'b' S3"" .0`},
		{"a: # b\nc : ", `{0 K0'a' S0"" K7'c' S7"" .0`},
		{"a: a\na: a", `{0 K0'a' S3"a" K5'a' S8"a" .0`},
		{"a:\n b", `{0 K0'a' S4"b" .0`},
		{"a:\n   b\nc:\n d", `{0 K0'a' S6"b" K8'c' S12"d" .0`},
		{"-:\n ?:", `{0 K0'-' {4 K4'?' S4"" .4 .0`},
		{"a: &b c", `{0 K0'a' S3&b"c" .0`},
		{"a: !b &c", `{0 K0'a' S3&c!b"" .0`},
		{"a: &b\nc: d", `{0 K0'a' S3&b"" K6'c' S9"d" .0`},
		// Blocks below a key.
		{"a:\n  b: c\n  d: e\nf: g", `{0 K0'a' {5 K5'b' S8"c" K12'd' S15"e" .5 K17'f' S20"g" .0`},
		{"a:\n - b\n - c\nd:", `{0 K0'a' [4 S6"b" S11"c" .4 K13'd' S13"" .0`},
		{"a:\n  b:\n    c:\nd:", `{0 K0'a' {5 K5'b' {12 K12'c' S12"" .12 .5 K15'd' S15"" .0`},
		{"a:\n  b:\n    c:\n  d:", `{0 K0'a' {5 K5'b' {12 K12'c' S12"" .12 K17'd' S17"" .5 .0`},
		{"a: &b\n  c: d", `{0 K0'a' {3&b K8'c' S11"d" .3 .0`},
		{"a: !b\n - c\nd: e", `{0 K0'a' [3!b S9"c" .3 K11'd' S14"e" .0`},
		{"a:\n  &b\n  c: d", `{0 K0'a' {5&b K10'c' S13"d" .5 .0`},
		{"a:\n  &b\n c: d\ne:", `{0 K0'a' {5&b K9'c' S12"d" .5 K14'e' S14"" .0`},
		{"a:\n  &b\nc: d", `{0 K0'a' S5&b"" K8'c' S11"d" .0`},
		{"a:\n  !b\n  c:\n    d\n", `{0 K0'a' {5!b K10'c' S17"d" .5 .0`},
		{"&a !b\nc: d\ne: f", `{0&a!b K6'c' S9"d" K11'e' S14"f" .0`},
		{"é:\n é: é\n", `{0 K0'é' {5 K5'é' S9"é" .5 .0`},
		{"- é: a\n  é: b", `[0 {2 K2'é' S6"a" K10'é' S14"b" .2 .0`},
	})
}

// P8.1: flows.
func TestFlows(t *testing.T) {
	hold(t, []good{
		{"[]", "[0 .0"},
		{"{}", "{0 .0"},
		{"  [ ]  # a", "[2 .2"},
		{"[a]", `[0 S1"a" .0`},
		{"[a,]", `[0 S1"a" .0`},
		{"[a , 'b' , ]", `[0 S1"a" S5'b' .0`},
		{"[*a, &b c, !d 'e', &f !g h]", `[0 *1'a' S5&b"c" S11!d'e' S19&f!g"h" .0`},
		{"[[], [a], {}, {b: c}]", `[0 [1 .1 [5 S6"a" .5 {10 .10 {14 K15'b' S18"c" .14 .0`},
		{"[&a [], !b {}, !c &d [e]]", `[0 [1&a .1 {8!b .8 [15&d!c S22"e" .15 .0`},
		{"{a: b}", `{0 K1'a' S4"b" .0`},
		{"{a: b,}", `{0 K1'a' S4"b" .0`},
		{"{'a': b, \"c\": 'd',}", `{0 K1'a' S6"b" K9'c' S14'd' .0`},
		{"{a:}", `{0 K1'a' S1"" .0`},
		{"{a: }", `{0 K1'a' S1"" .0`},
		{"{ a:,b:, c: d}", `{0 K2'a' S2"" K5'b' S5"" K9'c' S12"d" .0`},
		{"{a:,}", `{0 K1'a' S1"" .0`},
		{"{a: *b, c: &d e, f: !g []}", `{0 K1'a' *4'b' K8'c' S11&d"e" K17'f' [20!g .20 .0`},
		{"{a: {b: {}}, c: [d]}", `{0 K1'a' {4 K5'b' {8 .8 .4 K13'c' [16 S17"d" .16 .0`},
		{"{a:[], b:{c:}}", `{0 K1'a' [3 .3 K7'b' {9 K10'c' S10"" .9 .0`},
		{"{a: a, a: a}", `{0 K1'a' S4"a" K7'a' S10"a" .0`},
		{"&a []", "[0&a .0"},
		{"!a &b {c: d}", `{0&b!a K7'c' S10"d" .0`},
		{"- [a, b]\n- {c: d}", `[0 [2 S3"a" S6"b" .2 {11 K12'c' S15"d" .11 .0`},
		{"- &a [b]", `[0 [2&a S6"b" .2 .0`},
		{"-\n  [a]\n- b", `[0 [4 S5"a" .4 S10"b" .0`},
		{"a:\n  {b: c}\nd: [e]", `{0 K0'a' {5 K6'b' S9"c" .5 K12'd' [15 S16"e" .15 .0`},
	})
}

// P8.1: block literals.
func TestLiterals(t *testing.T) {
	hold(t, []good{
		{"|", "S0''"},
		{"|\n a\n", "S0'a\n'"},
		{"|-\n a\n\n", "S0'a'"},
		{"|+\n a\n\n", "S0'a\n\n'"},
		{"|+\n\n\n", "S0'\n\n'"},
		{"|1\n  a", "S0' a\n'"},
		{"| # a\n b", "S0'b\n'"},
		{"&a !b |\n c", "S0&a!b'c\n'"},
		{"  |\n a", "S2'a\n'"},
		{"|\n  a\n # b\n", "S0'a\n'"},
		{"|\n a\n # b\n", "S0'a\n# b\n'"},
		{"|\n a\n# b\n\n", "S0'a\n'"},
		{"- |\n a\n- b", `[0 S2'a` + "\n" + `' S9"b" .0`},
		{"- |\n- b", `[0 S2'' S6"b" .0`},
		{"- - |\n   a\n- b", `[0 [2 S4'a` + "\n" + `' .2 S13"b" .0`},
		{"- |+\n  a\n\n- b", `[0 S2'a` + "\n\n" + `' S12"b" .0`},
		{"a: |\n  b\n\n  c\nd: e", `{0 K0'a' S3'b` + "\n\nc\n" + `' K14'd' S17"e" .0`},
		{"- a: |\n   b\n  c: d", `[0 {2 K2'a' S5'b` + "\n" + `' K14'c' S17"d" .2 .0`},
		{"- a: |\n  c: d", `[0 {2 K2'a' S5'' K9'c' S12"d" .2 .0`},
		{"- &a |1-\n   b", "[0 S2&a'  b' .0"},
		// It stands around the column that the block below stands below, not in the block's own.
		{"-\n    |\n  a\n- b", `[0 S6'a` + "\n" + `' S14"b" .0`},
		{"a:\n    |2\n   b", "{0 K0'a' S7' b\n' .0"},
		// What looks like a row, and a marker that ends it.
		{"|\n - a: b\n ---\n", "S0'- a: b\n---\n'"},
		{"|\n 'a\n % [ & \n", "S0''a\n% [ & \n'"},
		{"|\n a\n---\nb", `S0'a` + "\n" + `' / S9"b"`},
		{"|+\n\n---\n|", "S0'\n' / S8''"},
		{"a: |\n---\n", `{0 K0'a' S3'' .0 / S8""`},
	})
}

type bad struct {
	s  string
	e  api.Errno
	at int
}

func refuse(t *testing.T, cases []bad) {
	for _, c := range cases {
		if got, want := asked(c.s), wrong(c.e, c.at); got != want {
			t.Errorf("%.60q: %.200s, not %s", c.s, got, want)
		}
	}
}

// P8.1: ErrSyntax at the first token that may not stand where it does.
func TestSyntax(t *testing.T) {
	refuse(t, []bad{
		// Behind a value.
		{"a: b: c", api.ErrSyntax, 4},
		{"a: 'b' 'c'", api.ErrSyntax, 7},
		{"'a' b", api.ErrSyntax, 4},
		{"- 'a' &b", api.ErrSyntax, 6},
		{"*a b", api.ErrSyntax, 3},
		{"*a: b", api.ErrSyntax, 2},
		{"- *a : b", api.ErrSyntax, 5},
		{"&a b: c", api.ErrSyntax, 4},
		{"- !a 'b': c", api.ErrSyntax, 8},
		{"a: &b c: d", api.ErrSyntax, 7},
		{"[] []", api.ErrSyntax, 3},
		{"[a]: b", api.ErrSyntax, 3},
		{"{a: b}: c", api.ErrSyntax, 6},
		{"- [] a", api.ErrSyntax, 5},
		{"a: {} |", api.ErrSyntax, 6},
		{"[[a] b, c]", api.ErrSyntax, 5},
		{"a::\nb : : c", api.ErrSyntax, 8},
		// Behind a Literal.
		{"| a", api.ErrSyntax, 2},
		{"|: a", api.ErrSyntax, 1},
		{"- &a |- 'b'\n  c", api.ErrSyntax, 8},
		{"a: | |", api.ErrSyntax, 5},
		// A second Anchor or Tag.
		{"&a &b c", api.ErrSyntax, 3},
		{"&a &a", api.ErrSyntax, 3},
		{"!a !b", api.ErrSyntax, 3},
		{"&a !b &c d", api.ErrSyntax, 6},
		{"!a &b !c", api.ErrSyntax, 6},
		{"- &a !b !c", api.ErrSyntax, 8},
		{"a: &b &c\n  d: e", api.ErrSyntax, 6},
		{"[&a &b c]", api.ErrSyntax, 4},
		{"{a: !b &c !d e}", api.ErrSyntax, 10},
		// An Alias behind one.
		{"&a *b", api.ErrSyntax, 3},
		{"- !a *b", api.ErrSyntax, 5},
		{"a: &b !c *d", api.ErrSyntax, 9},
		{"[a, &b *c]", api.ErrSyntax, 7},
		{"{a: !b *c}", api.ErrSyntax, 7},
		// In the column no Dash.
		{"- a\nb: c", api.ErrSyntax, 4},
		{"- a\nb", api.ErrSyntax, 4},
		{"- a\n&b\n", api.ErrSyntax, 4},
		{"- - a\n  b: c", api.ErrSyntax, 8},
		{"- -\n  a: b", api.ErrSyntax, 6},
		{"-\n  - a\n  *b", api.ErrSyntax, 10},
		{"- a\n[]", api.ErrSyntax, 4},
		{"- a\n|", api.ErrSyntax, 4},
		{"- a\n: b", api.ErrSyntax, 4},
		{"a:\n- b\n", api.ErrSyntax, 3},
		// In the column no key.
		{"a: b\n- c", api.ErrSyntax, 5},
		{"a: b\nc", api.ErrSyntax, 5},
		{"a: b\n'c' 'd': e", api.ErrSyntax, 5},
		{"a: b\n'c'\nd: e", api.ErrSyntax, 5},
		{"a: b\n&c d: e", api.ErrSyntax, 5},
		{"a: b\n*c", api.ErrSyntax, 5},
		{"a: b\n: c", api.ErrSyntax, 5},
		{"a: b\n[c]: d", api.ErrSyntax, 5},
		{"a: b\n|: d", api.ErrSyntax, 5},
		{"a: b\n{}", api.ErrSyntax, 5},
		{"- a: b\n  c", api.ErrSyntax, 9},
		{"- a: b\n  - c", api.ErrSyntax, 9},
		{"a:\n  b: c\n  'd'", api.ErrSyntax, 12},
		{"a: |\nb", api.ErrSyntax, 5},
		// What is no value.
		{":", api.ErrSyntax, 0},
		{": a", api.ErrSyntax, 0},
		{"- :", api.ErrSyntax, 2},
		{"-\n  : a", api.ErrSyntax, 4},
		{"a: :", api.ErrSyntax, 3},
		{"a: : b", api.ErrSyntax, 3},
		{"&a :", api.ErrSyntax, 3},
		{"&a: b", api.ErrSyntax, 2},
		{"a: !b : c", api.ErrSyntax, 6},
		{"a:\n &b: c", api.ErrSyntax, 6},
		// In flows.
		{"[,]", api.ErrSyntax, 1},
		{"[, a]", api.ErrSyntax, 1},
		{"[a,,]", api.ErrSyntax, 3},
		{"[a, , b]", api.ErrSyntax, 4},
		{"[:]", api.ErrSyntax, 1},
		{"[a: b]", api.ErrSyntax, 2},
		{"[a:]", api.ErrSyntax, 2},
		{"['a' 'b']", api.ErrSyntax, 5},
		{"['a' &b]", api.ErrSyntax, 5},
		{"[*a: b]", api.ErrSyntax, 3},
		{"[[] []]", api.ErrSyntax, 4},
		{"[&a]", api.ErrSyntax, 3},
		{"[!a, b]", api.ErrSyntax, 3},
		{"[a, &b !c]", api.ErrSyntax, 9},
		{"[&a: b]", api.ErrSyntax, 3},
		{"{a}", api.ErrSyntax, 2},
		{"{a, b: c}", api.ErrSyntax, 2},
		{"{'a' 'b': c}", api.ErrSyntax, 5},
		{"{a: b, c}", api.ErrSyntax, 8},
		{"{,}", api.ErrSyntax, 1},
		{"{, a: b}", api.ErrSyntax, 1},
		{"{a: b,,}", api.ErrSyntax, 6},
		{"{a:,,}", api.ErrSyntax, 4},
		{"{: a}", api.ErrSyntax, 1},
		{"{a: : b}", api.ErrSyntax, 4},
		{"{a: 'b' c: d}", api.ErrSyntax, 8},
		{"{a: b: c}", api.ErrSyntax, 5},
		{"{a: &b}", api.ErrSyntax, 6},
		{"{a: !b, c: d}", api.ErrSyntax, 6},
		{"{&a b: c}", api.ErrSyntax, 1},
		{"{!a b: c}", api.ErrSyntax, 1},
		{"{*a: b}", api.ErrSyntax, 1},
		{"{[a]: b}", api.ErrSyntax, 1},
		{"{{}: b}", api.ErrSyntax, 1},
		{"{a: [b: c]}", api.ErrSyntax, 6},
		{"[{a}]", api.ErrSyntax, 3},
		{"- a: [b: c]", api.ErrSyntax, 7},
		// Below an Anchor or a Tag a block that is neither Seq nor Map.
		{"&a\nb", api.ErrSyntax, 3},
		{"!a\n  'b'", api.ErrSyntax, 5},
		{"&a\n[b]", api.ErrSyntax, 3},
		{"&a\n{b: c}", api.ErrSyntax, 3},
		{"&a\n*b", api.ErrSyntax, 3},
		{"&a\n|\n b", api.ErrSyntax, 3},
		{"&a\n!b\nc: d", api.ErrSyntax, 3},
		{"&a\n!b c", api.ErrSyntax, 3},
		{"&a\n&b\n- c", api.ErrSyntax, 3},
		{"- &a\n  b", api.ErrSyntax, 7},
		{"a: !b\n c", api.ErrSyntax, 7},
		{"a: &b\n  &c d: e", api.ErrSyntax, 8},
		{"-\n  &a\n b", api.ErrSyntax, 8},
		{"a: b\n---\n!c\nd", api.ErrSyntax, 12},
	})
}

// P8.1: ErrIndent where a row begins that is indented by too much, or left.
func TestIndent(t *testing.T) {
	refuse(t, []bad{
		{"a: b\n  c: d", api.ErrIndent, 7},
		{"a: b\n c", api.ErrIndent, 6},
		{"- a\n - b", api.ErrIndent, 5},
		{"- a\n  b: c", api.ErrIndent, 6},
		{"- a\n  b", api.ErrIndent, 6},
		{"- - a\n - b", api.ErrIndent, 7},
		{"- - a\n   - b", api.ErrIndent, 9},
		{"- a: b\n c: d", api.ErrIndent, 8},
		{"- a: b\n   c: d", api.ErrIndent, 10},
		{"a:\n  b: c\n d: e", api.ErrIndent, 11},
		{"a:\n  b: c\n   d: e", api.ErrIndent, 13},
		{"a:\n  b\n  c", api.ErrIndent, 9},
		{"a:\n  b\n c", api.ErrIndent, 8},
		{"-\n  a\n  - b", api.ErrIndent, 8},
		{"a: []\n  b", api.ErrIndent, 8},
		{"a: *b\n\n # c\n  d", api.ErrIndent, 14},
		{"- &a\n    - b\n  - c", api.ErrIndent, 15},
		{"a: |-\n  b\n c", api.ErrIndent, 11},
		// Left behind the document's node.
		{"a\nb", api.ErrIndent, 2},
		{"a\n  b", api.ErrIndent, 4},
		{"  a\nb", api.ErrIndent, 4},
		{"a\n- b", api.ErrIndent, 2},
		{"'a'\n\n# b\n c: d", api.ErrIndent, 10},
		{"[a]\n[b]", api.ErrIndent, 4},
		{"&a b\nc", api.ErrIndent, 5},
		{"*a\n*b", api.ErrIndent, 3},
		{"  a: b\nc: d", api.ErrIndent, 7},
		{"  - a\n - b", api.ErrIndent, 7},
		{"&a\n  b: c\nd: e", api.ErrIndent, 10},
		{"|\na", api.ErrIndent, 2},
		{"|\n  a\n b", api.ErrIndent, 7},
		{"|2\n a", api.ErrIndent, 4},
		{"---\na\nb", api.ErrIndent, 6},
		{"a\n---\n- b\n---\nc\n ---", api.ErrIndent, 17},
		// Such a row isn't taken.
		{"a: b\n  'c", api.ErrIndent, 7},
		{"- a\n  [ }", api.ErrIndent, 6},
		{"a\n\"\\q\"", api.ErrIndent, 2},
		{"a\n%", api.ErrIndent, 2},
	})
}

// P8.1: layer 2's and layer 7's errors.
func TestBelow(t *testing.T) {
	refuse(t, []bad{
		{a(65537), api.ErrSize, 65536},
		{"a\n\tb", api.ErrByte, 2},
		{"a: b: c\n\xff", api.ErrByte, 8},
		{strings.Repeat("---\n", 17) + "\x00", api.ErrByte, 68},
		{strings.Repeat("---\n", 17) + blanks(65536), api.ErrSize, 65536},
		{"# \x7f", api.ErrByte, 2},
		{"|\n \r", api.ErrByte, 3},
		{"%", api.ErrSyntax, 0},
		{"- a\n- @", api.ErrSyntax, 6},
		{"a: - b", api.ErrSyntax, 3},
		{"a:\n  'b", api.ErrSyntax, 7},
		{"a: \"\\q\"", api.ErrEscape, 4},
		{"- b\n- '" + a(1025) + "'", api.ErrScalar, 6},
		{"---\n" + a(1025), api.ErrScalar, 4},
		{"[a\nb]", api.ErrSyntax, 2},
		{"a: [", api.ErrSyntax, 4},
		{"- [|]", api.ErrSyntax, 3},
		// When the row is taken, ahead of what its tokens may not do.
		{": a 'b", api.ErrSyntax, 0},
		{"a: b: 'c", api.ErrSyntax, 8},
		{"a: b: \"\\q\"", api.ErrEscape, 7},
		{"- a\nb: 'c", api.ErrSyntax, 9},
		{"&a\n[b", api.ErrSyntax, 5},
		{"- a\n%", api.ErrSyntax, 4},
		{"a: | %", api.ErrSyntax, 5},
		// Not ahead of that.
		{"a: b: c\n'd", api.ErrSyntax, 4},
		{"&a &b\n'd", api.ErrSyntax, 3},
		{"a:\n%", api.ErrSyntax, 3},
		{"a:\n %", api.ErrSyntax, 4},
		{"a:\nb: %", api.ErrSyntax, 6},
	})
}

// P8.1: of several documents the first one's error.
func TestOrder(t *testing.T) {
	refuse(t, []bad{
		{"a\n---\n%\n---\nb: c: d", api.ErrSyntax, 6},
		{"a\nb\n---\n%", api.ErrIndent, 2},
		{"a\n---\nb\n---\nc: d: e", api.ErrSyntax, 16},
		{"a: b: c\n  d\n'", api.ErrSyntax, 4},
		{"a: b\n  d: e: f\nc: d: e", api.ErrIndent, 7},
		{"- [a: b]\n - c", api.ErrSyntax, 4},
		{"%\n" + strings.Repeat("---\n", 16), api.ErrMany, 62},
		{"a\nb\n" + strings.Repeat("---\n:\n", 20), api.ErrMany, 4 + 15*6},
	})
}

// P8.1: 16 documents, and one more.
func TestMany(t *testing.T) {
	for _, first := range []string{"", "\n", "# a\n\n", " #\n"} {
		s := first + strings.Repeat("---\n", 16)
		docs, f := event.Docs(s)
		if f.Bad() || len(docs) != 16 {
			t.Errorf("%q: %s", s, told(docs, f))
		}
		for _, last := range []string{"---", "---\n", "---\n---\n", "---\n%", "---\nb\n\n---\nb"} {
			if got, want := asked(s+last), wrong(api.ErrMany, len(s)); got != want {
				t.Errorf("%q: %s, not %s", s+last, got, want)
			}
		}
		if got, want := asked(s+"%"), wrong(api.ErrSyntax, len(s)); got != want {
			t.Errorf("%q: %s, not %s", s+"%", got, want)
		}
	}
	s := "\n# a\n b\n" + strings.Repeat("\n---\n# c\n", 15)
	docs, f := event.Docs(s)
	if f.Bad() || len(docs) != 16 {
		t.Errorf("%q: %s", s, told(docs, f))
	}
	if got, want := asked(s+"\n---"), wrong(api.ErrMany, len(s)+1); got != want {
		t.Errorf("%q: %s, not %s", s, got, want)
	}
	// Of a literal no line is a marker.
	s = "|\n" + strings.Repeat(" ---\n", 40)
	docs, f = event.Docs(s)
	if f.Bad() || len(docs) != 1 || docs[0][0].Text != strings.Repeat("---\n", 40) {
		t.Errorf("%q: %s", s, told(docs, f))
	}
}

// nested is n Seqs and Maps, one within the other, in a way of writing: the text, and where the last one begins.
type nested struct {
	name string
	text func(n int) (s string, last int)
}

func ways() []nested {
	rows := func(head string, step int) func(int) (string, int) {
		return func(n int) (string, int) {
			s, last := "", 0
			for i := range n {
				last = len(s) + i*step
				s += blanks(i*step) + head + "\n"
			}
			return s, last
		}
	}
	flow := func(head, foot string, at int) func(int) (string, int) {
		return func(n int) (string, int) {
			return strings.Repeat(head, n) + strings.Repeat(foot, n), (n-1)*len(head) + at
		}
	}
	return []nested{
		{"Dashes of a row", func(n int) (string, int) { return strings.TrimSpace(strings.Repeat("- ", n)), 2 * (n - 1) }},
		{"Dashes of rows", rows("-", 1)},
		{"keys", rows("a:", 2)},
		{"quoted keys", rows("'a':", 1)},
		{"named Seqs", func(n int) (string, int) {
			s := "-\n"
			last := 0
			for i := 1; i < n; i++ {
				last = len(s) - 3
				s = s[:len(s)-1] + " &a\n" + blanks(i) + "-\n"
				last = len(s) - i - 5
			}
			return s, last
		}},
		{"open Seqs", flow("[", "]", 0)},
		{"open Maps", flow("{a: ", "}", 0)},
		{"open named Seqs", flow("!b &a [", "]", 0)},
		{"open Maps of Seqs", func(n int) (string, int) {
			head, foot, last := "", "", 0
			for i := range n {
				last = len(head)
				if i%2 == 0 {
					head, foot = head+"{a: ", "}"+foot
				} else {
					head, foot = head+"[", "]"+foot
				}
			}
			return head + foot, last
		}},
		{"flows in blocks", func(n int) (string, int) {
			return strings.Repeat("- ", n-1) + "[]", 2 * (n - 1)
		}},
		{"named flows in blocks", func(n int) (string, int) {
			return strings.Repeat("- ", n-1) + "!a &b  {c: d}", 2 * (n - 1)
		}},
		{"keys behind Dashes", func(n int) (string, int) {
			return strings.Repeat("- ", n-1) + "a: b", 2 * (n - 1)
		}},
	}
}

// P8.1 and P8.2: 64 Seqs and Maps within one another, and one more.
func TestDeep(t *testing.T) {
	for _, w := range ways() {
		for _, n := range []int{2, 63, 64} {
			s, last := w.text(n)
			docs, f := event.Docs(s)
			if f.Bad() || len(docs) != 1 {
				t.Errorf("%d %s: %s", n, w.name, told(docs, f))
				continue
			}
			depth, at := whole(t, s, docs[0])
			if depth != n || at != last {
				t.Errorf("%d %s: %d at %d, not at %d", n, w.name, depth, at, last)
			}
		}
		for _, n := range []int{65, 66, 200} {
			s, _ := w.text(n)
			_, last := w.text(65)
			if got, want := asked(s), wrong(api.ErrDeep, last); got != want {
				t.Errorf("%d %s: %s, not %s", n, w.name, got, want)
			}
		}
	}
}

// P8.1: where one more stands beside others that end, and what is wrong ahead of it and behind it.
func TestDeepOrder(t *testing.T) {
	in := strings.Repeat("[", 64)
	out := strings.Repeat("]", 64)
	if docs, f := event.Docs(in + "a], [b], [" + strings.Repeat("],[", 1000) + "]" + out[1:]); f.Bad() {
		t.Error(told(docs, f))
	}
	refuse(t, []bad{
		{in + "a, []" + out, api.ErrDeep, 67},
		{in + "&a *b, []" + out, api.ErrSyntax, 67},
		{in + "[:]" + out, api.ErrDeep, 64},
		{in + "{a}" + out, api.ErrDeep, 64},
		{in + "&a {a}" + out, api.ErrDeep, 64},
		{in + "a b, !a &c {a}" + out, api.ErrDeep, 69},
		{in + "&a &b []" + out, api.ErrSyntax, 67},
		{strings.Repeat("- ", 64) + "a: b: c", api.ErrDeep, 128},
		{strings.Repeat("- ", 65) + "&", api.ErrSyntax, 130},
		{strings.Repeat("- ", 64) + "&a\n" + blanks(200) + "b: c", api.ErrDeep, 128},
		{strings.Repeat("- ", 64) + "&a\n" + blanks(200) + "[]", api.ErrSyntax, 331},
	})
}

// P8.1: a Literal's content of 1024 bytes, and one more.
func TestLong(t *testing.T) {
	hold(t, []good{
		{"|-\n " + a(1024), "S0'" + a(1024) + "'"},
		{"|\n " + a(1023), "S0'" + a(1023) + "\n'"},
		{"|+" + strings.Repeat("\n", 1025), "S0'" + strings.Repeat("\n", 1024) + "'"},
		{"|" + strings.Repeat("\n", 5000) + "\n", "S0''"},
		{"- |\n" + strings.Repeat("   a\n", 512) + "- b", "[0 S2'" + strings.Repeat("a\n", 512) + `' S2566"b" .0`},
		{"|1\n" + blanks(1024), "S0'" + blanks(1023) + "\n'"},
		{"|1-\n" + blanks(1024) + "a", "S0'" + blanks(1023) + "a'"},
	})
	refuse(t, []bad{
		{"|-\n " + a(1025), api.ErrScalar, 0},
		{"|\n " + a(1024), api.ErrScalar, 0},
		{"|+" + strings.Repeat("\n", 1026), api.ErrScalar, 0},
		{"- |\n" + strings.Repeat("   a\n", 512) + "   b\n- b", api.ErrScalar, 2},
		{"|1-\n" + blanks(1025) + "a", api.ErrScalar, 0},
		{"|1\n" + blanks(1025), api.ErrScalar, 0},
		{"a: &b !c  |-\n  " + strings.Repeat("é", 512) + "a", api.ErrScalar, 10},
		{"- a\n-\n    |\n   " + a(2000) + "\n%", api.ErrScalar, 10},
		// Its row is looked at to the end ahead of that.
		{"| a\n " + a(2000), api.ErrSyntax, 2},
		{"a: |: c\n " + a(2000), api.ErrSyntax, 4},
		// What stands behind it isn't.
		{"a: |\n " + a(2000) + "\n'", api.ErrScalar, 3},
		{"a: |\n " + a(2000) + "\n  b\n c", api.ErrScalar, 3},
	})
}
