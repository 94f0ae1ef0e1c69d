package token_test

import (
	"fmt"
	"math"
	"regexp"
	"slices"
	"strings"
	"testing"

	"stanhope/api"
	"stanhope/char"
	"stanhope/quote"
	"stanhope/short"
	"stanhope/token"
)

// signs are one byte for each kind, by its number: P, Q and L for those that have a text of any kind.
const signs = "0-:,[]{}&*!PQL"

// told is a row's tokens as the tests write them: each one's sign, its place and its text in marks; or its fault.
func told(l []token.Token, f api.Fault) string {
	if f != (api.Fault{}) {
		return fmt.Sprintf("%v at %d, %d tokens", f, f.At, len(l))
	}
	parts := make([]string, len(l))
	for i, x := range l {
		parts[i] = fmt.Sprintf("%c%d", signs[x.Kind], x.At)
		if x.Text != "" || x.Kind > token.CloseMap {
			parts[i] += "(" + x.Text + ")"
		}
	}
	return strings.Join(parts, " ")
}

// wrong is an error as told writes it.
func wrong(e api.Errno, at int) string { return fmt.Sprintf("%v at %d, 0 tokens", e, at) }

// asked is what a row is, as told writes it.
func asked(s string) string { return told(token.Row(s, 0)) }

// a is a text of that many bytes.
func a(n int) string { return strings.Repeat("a", n) }

func TestNumbers(t *testing.T) {
	kinds := []int{
		token.Dash, token.Colon, token.Comma, token.OpenSeq, token.CloseSeq, token.OpenMap, token.CloseMap,
		token.Anchor, token.Alias, token.Tag, token.Plain, token.Quoted, token.Literal,
	}
	if !slices.Equal(kinds, []int{1, 2, 3, 4, 5, 6, 7, 8, 9, 10, 11, 12, 13}) {
		t.Error(kinds)
	}
}

// The chapter's example 1.
func TestExample(t *testing.T) {
	want := "-0 P2(a) :3 [5 P6(b) ,7 Q9(c) ]12"
	if got := asked("- a: [b, 'c']"); got != want {
		t.Errorf("%s, not %s", got, want)
	}
}

// P7.1: rows that are tokens.
func TestRow(t *testing.T) {
	cases := []struct{ s, want string }{
		{"", ""},
		{" ", ""},
		{"    ", ""},
		// Dashes.
		{"-", "-0"},
		{"- ", "-0"},
		{"  -  ", "-2"},
		{"- -", "-0 -2"},
		{"-   - a", "-0 -4 P6(a)"},
		{"- - - a: b", "-0 -2 -4 P6(a) :7 P9(b)"},
		{"-a", "P0(-a)"},
		{"--", "P0(--)"},
		{"---", "P0(---)"},
		{"- --", "-0 P2(--)"},
		{"-- -", "P0(-- -)"},
		{"a - b", "P0(a - b)"},
		{"-,", "P0(-,)"},
		{"-\t", "P0(-\t)"},
		{"-:", "P0(-) :1"},
		{"-#", "P0(-#)"},
		{"- #", "-0"},
		// Colons.
		{":", ":0"},
		{": :", ":0 :2"},
		{"a:", "P0(a) :1"},
		{"a : b", "P0(a) :2 P4(b)"},
		{"a: b: c", "P0(a) :1 P3(b) :4 P6(c)"},
		{"a:b", "P0(a:b)"},
		{":a", "P0(:a)"},
		{"::", "P0(:) :1"},
		{"a::", "P0(a:) :2"},
		{"a:]", "P0(a:])"},
		{"a: :b", "P0(a) :1 P3(:b)"},
		{"[a:]", "[0 P1(a) :2 ]3"},
		{"[:]", "[0 :1 ]2"},
		{"[:,:]", "[0 :1 ,2 :3 ]4"},
		{"{a: b}", "{0 P1(a) :2 P4(b) }5"},
		{"{a:b}", "{0 P1(a:b) }4"},
		{"{a:{}}", "{0 P1(a) :2 {3 }4 }5"},
		{"{'a':}", "{0 Q1(a) :4 }5"},
		{"[]: a", "[0 ]1 :2 P4(a)"},
		{"[]:", "[0 ]1 :2"},
		// Flows.
		{"[]", "[0 ]1"},
		{"{}", "{0 }1"},
		{"[{}]", "[0 {1 }2 ]3"},
		{"{[]}", "{0 [1 ]2 }3"},
		{"[[], {}]", "[0 [1 ]2 ,3 {5 }6 ]7"},
		{"[,]", "[0 ,1 ]2"},
		{"[,,a , ]", "[0 ,1 ,2 P3(a) ,5 ]7"},
		{"[a b,c]", "[0 P1(a b) ,4 P5(c) ]6"},
		{"[ a  ]", "[0 P2(a) ]5"},
		{"[] []", "[0 ]1 [3 ]4"},
		{"{} a,b]", "{0 }1 P3(a,b])"},
		{"[a]: b,c", "[0 P1(a) ]2 :3 P5(b,c)"},
		{"[-a, -:]", "[0 P1(-a) ,3 P5(-) :6 ]7"},
		{"[-#]", "[0 P1(-#) ]3"},
		{"[?a]", "[0 P1(?a) ]3"},
		{"[&a[*b,!c{}]]", "[0 &1(a) [3 *4(b) ,6 !7(!c) {9 }10 ]11 ]12"},
		{"['a''b','c'[]]", "[0 Q1(a'b) ,7 Q8(c) [11 ]12 ]13"},
		// Names.
		{"&a", "&0(a)"},
		{"*a", "*0(a)"},
		{"!a", "!0(!a)"},
		{"&- *0 !_", "&0(-) *3(0) !6(!_)"},
		{"&a-B_9 b", "&0(a-B_9) P7(b)"},
		{"&a: b", "&0(a) :2 P4(b)"},
		{"*a:", "*0(a) :2"},
		{"[*a:]", "[0 *1(a) :3 ]4"},
		{"a &b *c !d", "P0(a &b *c !d)"},
		{"!a &b !c *d", "!0(!a) &3(b) !6(!c) *9(d)"},
		{"&" + a(32), "&0(" + a(32) + ")"},
		{"*" + a(32) + " ", "*0(" + a(32) + ")"},
		{"[!" + a(32) + "]", "[0 !1(!" + a(32) + ") ]34"},
		// Plain texts.
		{"a", "P0(a)"},
		{"a  ", "P0(a)"},
		{"  a  b  ", "P2(a  b)"},
		{"a,b]c", "P0(a,b]c)"},
		{"a'b\"c|", "P0(a'b\"c|)"},
		{"a]", "P0(a])"},
		{"é€", "P0(é€)"},
		{"\t\x00\xff\n", "P0(\t\x00\xff\n)"},
		{"?a", "P0(?a)"},
		{"?:", "P0(?) :1"},
		{a(1024), "P0(" + a(1024) + ")"},
		{"- " + a(1024) + "   ", "-0 P2(" + a(1024) + ")"},
		{"[" + a(1024) + "," + a(1024) + "]", "[0 P1(" + a(1024) + ") ,1025 P1026(" + a(1024) + ") ]2050"},
		{a(1024) + ": b", "P0(" + a(1024) + ") :1024 P1026(b)"},
		// Quoted texts.
		{"''", "Q0()"},
		{`""`, "Q0()"},
		{"'a' 'b'", "Q0(a) Q4(b)"},
		{"'a': \"b\"", "Q0(a) :3 Q5(b)"},
		{"'it''s #1: [,'", "Q0(it's #1: [,)"},
		{`"a\x41\n\"" "\\"`, "Q0(aA\n\") Q12(\\)"},
		{"'a'   ", "Q0(a)"},
		{"'\xff'", "Q0(\xff)"},
		{"'" + a(1024) + "': b", "Q0(" + a(1024) + ") :1026 P1028(b)"},
		// Headers.
		{"|", "L0(|)"},
		{"|-", "L0(|-)"},
		{"|+ ", "L0(|+)"},
		{"|2", "L0(|2)"},
		{"- |9+ # a", "-0 L2(|9+)"},
		{"a: |1-", "P0(a) :1 L3(|1-)"},
		{"| a", "L0(|) P2(a)"},
		{"|: a", "L0(|) :1 P3(a)"},
		{"|-:", "L0(|-) :2"},
		{"[] |", "[0 ]1 L3(|)"},
		{"&a !b |", "&0(a) !3(!b) L6(|)"},
		// Remarks.
		{"#", ""},
		{"#a", ""},
		{"# [ 'a", ""},
		{"  # a", ""},
		{"a #", "P0(a)"},
		{"a # b: c", "P0(a)"},
		{"a   #b", "P0(a)"},
		{"a#b #c", "P0(a#b)"},
		{"a: #b", "P0(a) :1"},
		{"a:#b", "P0(a:#b)"},
		{"'a' #b", "Q0(a)"},
		{"' # ' # '", "Q0( # )"},
		{"&a # b", "&0(a)"},
		{"[] #]", "[0 ]1"},
		{"[a#b]", "[0 P1(a#b) ]4"},
	}
	for _, c := range cases {
		if got := asked(c.s); got != c.want {
			t.Errorf("%.60q: %.200s, not %.200s", c.s, got, c.want)
		}
	}
}

// P7.1: rows that aren't, each with the place of what is wrong.
func TestFaults(t *testing.T) {
	cases := []struct {
		s  string
		e  api.Errno
		at int
	}{
		// No token begins there.
		{"%", api.ErrSyntax, 0},
		{"a: @b", api.ErrSyntax, 3},
		{"`a`", api.ErrSyntax, 0},
		{">", api.ErrSyntax, 0},
		{"- > a", api.ErrSyntax, 2},
		{"?", api.ErrSyntax, 0},
		{"? a", api.ErrSyntax, 0},
		{"[?]", api.ErrSyntax, 1},
		{"[a, ?, b]", api.ErrSyntax, 4},
		// A Dash elsewhere.
		{"a: -", api.ErrSyntax, 3},
		{"a: - b", api.ErrSyntax, 3},
		{"&a - b", api.ErrSyntax, 3},
		{"- &a - b", api.ErrSyntax, 5},
		{"'a' - b", api.ErrSyntax, 4},
		{": -", api.ErrSyntax, 2},
		{"| -", api.ErrSyntax, 2},
		{"[] - a", api.ErrSyntax, 3},
		{"[- a]", api.ErrSyntax, 1},
		{"[a, - b]", api.ErrSyntax, 4},
		{"[-", api.ErrSyntax, 1},
		{"- [- a]", api.ErrSyntax, 3},
		{"[-]", api.ErrSyntax, 1},
		{"[-, a]", api.ErrSyntax, 1},
		// Outside of flows.
		{",", api.ErrSyntax, 0},
		{"]", api.ErrSyntax, 0},
		{"- }", api.ErrSyntax, 2},
		{"a: , b", api.ErrSyntax, 3},
		{"[] ,", api.ErrSyntax, 3},
		{"[] ]", api.ErrSyntax, 3},
		{"[a] , b", api.ErrSyntax, 4},
		{"'a' ]", api.ErrSyntax, 4},
		// Another's close.
		{"[}", api.ErrSyntax, 1},
		{"{]", api.ErrSyntax, 1},
		{"[{]}", api.ErrSyntax, 2},
		{"{[}]", api.ErrSyntax, 2},
		{"[[]}", api.ErrSyntax, 3},
		{"[{}}", api.ErrSyntax, 3},
		// No name.
		{"&", api.ErrSyntax, 0},
		{"*", api.ErrSyntax, 0},
		{"!", api.ErrSyntax, 0},
		{"- & a", api.ErrSyntax, 2},
		{"a: *", api.ErrSyntax, 3},
		{"!!str a", api.ErrSyntax, 0},
		{"! a", api.ErrSyntax, 0},
		{"[&]", api.ErrSyntax, 1},
		{"[a, *, b]", api.ErrSyntax, 4},
		{"&é", api.ErrSyntax, 0},
		{"*.", api.ErrSyntax, 0},
		{"!<a>", api.ErrSyntax, 0},
		{"&" + a(33), api.ErrSyntax, 0},
		{"- *" + a(33) + " b", api.ErrSyntax, 2},
		{"!" + a(33) + ".", api.ErrSyntax, 0},
		{"&" + a(100000), api.ErrSyntax, 0},
		// A Literal in a flow.
		{"[|]", api.ErrSyntax, 1},
		{"[a, |-", api.ErrSyntax, 4},
		{"{a: |2}", api.ErrSyntax, 4},
		{"{|", api.ErrSyntax, 1},
		// A # that is no remark.
		{"[#a]", api.ErrSyntax, 1},
		{"[a,#b]", api.ErrSyntax, 3},
		{"[a]#b", api.ErrSyntax, 3},
		{"'a'#b", api.ErrSyntax, 3},
		{"&a#b", api.ErrSyntax, 2},
		{"|#", api.ErrSyntax, 1},
		{"[a:#b", api.ErrSyntax, 5},
		// Layer 5's.
		{"'a", api.ErrSyntax, 2},
		{"- 'a''", api.ErrSyntax, 6},
		{`"`, api.ErrSyntax, 1},
		{`a: "b`, api.ErrSyntax, 5},
		{`"\q"`, api.ErrEscape, 1},
		{`- "a\x4"`, api.ErrEscape, 4},
		{`["a", "\ud800"]`, api.ErrEscape, 7},
		{`"a\`, api.ErrEscape, 2},
		{"- '" + a(1025) + "'", api.ErrScalar, 2},
		{`"` + a(1025) + `"b`, api.ErrScalar, 0},
		{"'" + a(1025), api.ErrSyntax, 1026},
		// Too long.
		{a(1025), api.ErrScalar, 0},
		{"- " + a(1025) + ": b", api.ErrScalar, 2},
		{"[a, " + a(1025), api.ErrScalar, 4},
		{"a" + strings.Repeat(" ", 1023) + "b", api.ErrScalar, 0},
		{strings.Repeat("é", 513), api.ErrScalar, 0},
		{a(100000), api.ErrScalar, 0},
		// Right behind a token.
		{"'a'b", api.ErrSyntax, 3},
		{`"a"b`, api.ErrSyntax, 3},
		{"'a'\"b\"", api.ErrSyntax, 3},
		{`"a"'b'`, api.ErrSyntax, 3},
		{"'a':b", api.ErrSyntax, 3},
		{"'a',", api.ErrSyntax, 3},
		{"'a']", api.ErrSyntax, 3},
		{"'a'-", api.ErrSyntax, 3},
		{"&a.b", api.ErrSyntax, 2},
		{"&a&b", api.ErrSyntax, 2},
		{"!a!b", api.ErrSyntax, 2},
		{"*a:b", api.ErrSyntax, 2},
		{"*a]", api.ErrSyntax, 2},
		{"*aé", api.ErrSyntax, 2},
		{"!a\t", api.ErrSyntax, 2},
		{"|a", api.ErrSyntax, 1},
		{"||", api.ErrSyntax, 1},
		{"|0", api.ErrSyntax, 1},
		{"|12", api.ErrSyntax, 2},
		{"|-2", api.ErrSyntax, 2},
		{"|-+", api.ErrSyntax, 2},
		{"|,", api.ErrSyntax, 1},
		{"[]a", api.ErrSyntax, 2},
		{"[]]", api.ErrSyntax, 2},
		{"{},", api.ErrSyntax, 2},
		{"[][]", api.ErrSyntax, 2},
		{"[]:a", api.ErrSyntax, 2},
		{"[]:]", api.ErrSyntax, 2},
		{"[[]a]", api.ErrSyntax, 3},
		{"[['a'b]]", api.ErrSyntax, 5},
		{"['a':b]", api.ErrSyntax, 4},
		{"[*a:b]", api.ErrSyntax, 3},
		{"{}'a'", api.ErrSyntax, 2},
		// A flow that stays open.
		{"[", api.ErrSyntax, 1},
		{"{", api.ErrSyntax, 1},
		{"[a", api.ErrSyntax, 2},
		{"[a,   ", api.ErrSyntax, 6},
		{"[[]", api.ErrSyntax, 3},
		{"{a: []", api.ErrSyntax, 6},
		{"{a:{", api.ErrSyntax, 4},
		{"[ #]", api.ErrSyntax, 4},
		{"[a # b", api.ErrSyntax, 6},
		// The first one from the left.
		{"'a'b & a", api.ErrSyntax, 3},
		{"[%, }", api.ErrSyntax, 1},
		{"[ " + a(1025) + " }", api.ErrScalar, 2},
		{`"\q" ]`, api.ErrEscape, 1},
		{`] "\q"`, api.ErrSyntax, 0},
	}
	for _, c := range cases {
		if got, want := asked(c.s), wrong(c.e, c.at); got != want {
			t.Errorf("%.60q: %.200s, not %s", c.s, got, want)
		}
	}
}

// P7.1: places are the base's and those in the row, of tokens and of errors.
func TestBase(t *testing.T) {
	for _, base := range []int{0, 1, 10, 65536, -1, -100, math.MaxInt - 100, math.MinInt} {
		for _, s := range []string{"- &a !b c: [d, {e: *f}] # g", "'a' |2- ", "", "a: - b", `- "\q"`, "[a", "[}", "|x", a(1025), "-  '" + a(1025) + "'"} {
			l, f := token.Row(s, 0)
			for i := range l {
				l[i].At += base
			}
			if f.Bad() {
				f.At += base
			}
			more, g := token.Row(s, base)
			if !slices.Equal(more, l) || f != g {
				t.Errorf("%.40q from %d: %v %v, not %v %v", s, base, more, g, l, f)
			}
		}
	}
}

// R1: bases at the ends of what a number holds.
func TestBaseEnds(t *testing.T) {
	for _, base := range []int{math.MaxInt, math.MaxInt - 1, math.MinInt, math.MinInt + 1} {
		for _, s := range []string{"- a: [b]", "a: - b", "[", ""} {
			token.Row(s, base)
		}
	}
}

// P7.2: no kind but two, of numbers that no token has, too.
func TestScalar(t *testing.T) {
	for kind := -3; kind < 300; kind++ {
		x := token.Token{Kind: kind, At: 1, Text: "a"}
		if got, want := x.Scalar(), kind == 11 || kind == 12; got != want {
			t.Errorf("%d: %v", kind, got)
		}
	}
}

// What begins a token, and what may stand behind one (out of flows, and in them), as the chapters say it.
var (
	names  = regexp.MustCompile(`^[&*!][a-zA-Z0-9_-]+`)
	heads  = regexp.MustCompile(`^\|[1-9]?[-+]?`)
	dashes = regexp.MustCompile(`^-( |$)`)
	colons = map[bool]*regexp.Regexp{false: regexp.MustCompile(`^:( |$)`), true: regexp.MustCompile(`^:([ ,\[\]{}]|$)`)}
	behind = map[bool]*regexp.Regexp{false: regexp.MustCompile(`^( |$|:( |$))`), true: regexp.MustCompile(`^( |$|[,\[\]{}]|:([ ,\[\]{}]|$))`)}
)

// slowRow reads as the chapter says it: kind by kind, what begins the rest of the row.
func slowRow(s string) ([]token.Token, api.Fault) {
	var l []token.Token
	open := ""
	for at := 0; at < len(s); {
		rest := s[at:]
		if rest[0] == ' ' {
			at++
			continue
		}
		if rest[0] == '#' && (at == 0 || s[at-1] == ' ') {
			break
		}
		kind, content, next, f := slowToken(s, at, open, l)
		if f.Bad() {
			return nil, f
		}
		switch {
		case strings.Contains("[{", rest[:1]):
			open += rest[:1]
		case strings.Contains("]}", rest[:1]):
			open = open[:len(open)-1]
		}
		if slices.Contains([]int{5, 7, 8, 9, 10, 12, 13}, kind) && !behind[open != ""].MatchString(s[next:]) {
			return nil, api.Fault{Errno: api.ErrSyntax, At: next}
		}
		l = append(l, token.Token{Kind: kind, At: at, Text: content})
		at = next
	}
	if open != "" {
		return nil, api.Fault{Errno: api.ErrSyntax, At: len(s)}
	}
	return l, api.Fault{}
}

// slowToken is the token at a place of a row, of which those ahead and the open flows are known.
func slowToken(s string, at int, open string, l []token.Token) (kind int, content string, next int, f api.Fault) {
	rest := s[at:]
	first := rest[:1]
	none := api.Fault{Errno: api.ErrSyntax, At: at}
	switch {
	case dashes.MatchString(rest):
		if open == "" && !slices.ContainsFunc(l, func(x token.Token) bool { return x.Kind != 1 }) {
			return 1, "", at + 1, f
		}
		return 0, "", 0, none
	case colons[open != ""].MatchString(rest):
		return 2, "", at + 1, f
	case first == "," && open != "":
		return 3, "", at + 1, f
	case first == "[" || first == "{":
		return strings.Index(signs, first), "", at + 1, f
	case first == "]" && strings.HasSuffix(open, "["), first == "}" && strings.HasSuffix(open, "{"):
		return strings.Index(signs, first), "", at + 1, f
	case names.MatchString(rest):
		name := names.FindString(rest)
		if len(name) > 33 {
			return 0, "", 0, none
		}
		if first == "!" {
			return 10, name, at + len(name), f
		}
		return strings.Index(signs, first), name[1:], at + len(name), f
	case first == "|" && open == "":
		return 13, heads.FindString(rest), at + len(heads.FindString(rest)), f
	case first == "'":
		content, next, f = quote.ReadSingle(s, at)
		return 12, content, next, f
	case first == `"`:
		content, next, f = quote.ReadDouble(s, at)
		return 12, content, next, f
	}
	end, ok := char.Plain(s, at, open != "")
	if !ok {
		return 0, "", 0, none
	}
	if end-at > 1024 {
		return 0, "", 0, api.Fault{Errno: api.ErrScalar, At: at}
	}
	return 11, s[at:end], end, f
}

// laid is tokens with a blank between each two, Quoted double-quoted.
func laid(l []token.Token) string {
	parts := make([]string, len(l))
	for i, x := range l {
		switch x.Kind {
		case token.Anchor:
			parts[i] = "&" + x.Text
		case token.Alias:
			parts[i] = "*" + x.Text
		case token.Tag, token.Plain, token.Literal:
			parts[i] = x.Text
		case token.Quoted:
			parts[i] = quote.Double(x.Text)
		default:
			parts[i] = signs[x.Kind : x.Kind+1]
		}
	}
	return strings.Join(parts, " ")
}

// again says whether tokens are those for which P7.3 tells that they are read again as they are. A single ? that
// a colon stands behind is such a Plain, too, of which that can't be: with a blank behind it, it begins no token.
func again(l []token.Token) bool {
	return !slices.ContainsFunc(l, func(x token.Token) bool {
		return x.Kind == token.Plain && (strings.HasSuffix(x.Text, ":") || x.Text == "-" || x.Text == "?")
	})
}

// paired says whether each close has its open one, and each open one its close.
func paired(l []token.Token) bool {
	var open []int
	for _, x := range l {
		switch x.Kind {
		case token.OpenSeq, token.OpenMap:
			open = append(open, x.Kind+1)
		case token.CloseSeq, token.CloseMap:
			if len(open) == 0 || open[len(open)-1] != x.Kind {
				return false
			}
			open = open[:len(open)-1]
		}
	}
	return len(open) == 0
}

// whole tests P7.3 of a row's tokens.
func whole(t *testing.T, s string, l []token.Token) {
	t.Helper()
	for i := range l {
		if i > 0 && l[i].At <= l[i-1].At || l[i].At < 0 || l[i].At >= len(s) {
			t.Fatalf("%q: places: %s", s, told(l, api.Fault{}))
		}
	}
	if !paired(l) {
		t.Fatalf("%q: flows: %s", s, told(l, api.Fault{}))
	}
	if !again(l) {
		return
	}
	more, f := token.Row(laid(l), 0)
	same := slices.EqualFunc(l, more, func(x, y token.Token) bool { return x.Kind == y.Kind && x.Text == y.Text })
	if f != (api.Fault{}) || !same {
		t.Fatalf("%q, laid as %q: %s, not %s", s, laid(l), told(more, f), told(l, api.Fault{}))
	}
}

// P7.1, P7.3: every short row of several kinds of signs, held against a slow reading, and laid again.
func TestShortRows(t *testing.T) {
	sets := []struct {
		n     int
		parts string
	}{
		{6, " a:#-,[]"},
		{6, " a:?-#]["},
		{6, " a:,[]{}"},
		{6, " a&*![]:"},
		{5, " a'\"\\:[]n-"},
		{5, " |-+12:[a"},
		{4, " a1_.:#-,[]{}&*!'\"\\|?%\t"},
	}
	good := 0
	for _, set := range sets {
		for s := range short.Texts(set.n, strings.Split(set.parts, "")...) {
			l, f := token.Row(s, 0)
			want, g := slowRow(s)
			if f != g || !slices.Equal(l, want) {
				t.Fatalf("%q: %s, not %s", s, told(l, f), told(want, g))
			}
			if !f.Bad() {
				good++
				whole(t, s, l)
			}
		}
	}
	if good < 100000 {
		t.Errorf("only %d rows are tokens", good)
	}
}

// P7.1, P7.3: every byte at each place around tokens of each kind.
func TestEveryByte(t *testing.T) {
	rows := []string{
		"~", "~a", "~ a", "a~", "a ~", "a~ b", "- ~", "-~", "- ~a", "a: ~", "a:~", "a: ~b", ":~", "?~", "?~ a",
		"&~", "&a~", "*~", "*a~", "!~", "!a~", "&a ~", "'~'", "'a'~", "'a' ~", "\"~\"", "\"a\"~", "\"\\~\"",
		"|~", "|1~", "|-~", "| ~", "[]~", "[] ~", "{}~", "{}:~",
		"[~]", "[~", "[a~]", "[a ~]", "[a~b]", "[a,~]", "[a:~]", "[-~]", "[?~]", "[:~]", "[&a~]", "[*~]", "[!a~]",
		"['a'~]", "[\"a\"~]", "[[]~]", "[{}~]", "[|~]", "{~}", "{~", "{a~}", "{a: ~}", "{a:~}", "{[]~}",
	}
	for n := range 256 {
		for _, row := range rows {
			s := strings.ReplaceAll(row, "~", string([]byte{byte(n)}))
			l, f := token.Row(s, 0)
			want, g := slowRow(s)
			if f != g || !slices.Equal(l, want) {
				t.Fatalf("%q: %s, not %s", s, told(l, f), told(want, g))
			}
			// A Quoted that is no UTF-8 can't be read as it was: double-quoted, its bytes are other characters.
			if !f.Bad() && !strings.ContainsAny(s, "'\"") {
				whole(t, s, l)
			}
		}
	}
}

// P7.1: each length of names, and of texts, around what is allowed.
func TestLengths(t *testing.T) {
	for n := range 70 {
		name := strings.Repeat("-", n)
		for _, sign := range []string{"&", "*", "!"} {
			for _, s := range []string{sign + name, "- " + sign + name + " b", "[" + sign + name + "]"} {
				l, f := token.Row(s, 0)
				if n >= 1 && n <= 32 {
					if f.Bad() || !slices.ContainsFunc(l, func(x token.Token) bool { return strings.HasSuffix(x.Text, name) }) {
						t.Errorf("%q: %s", s, told(l, f))
					}
				} else if got, want := told(l, f), wrong(api.ErrSyntax, strings.Index(s, sign)); got != want {
					t.Errorf("%q: %s, not %s", s, got, want)
				}
			}
		}
	}
	for n := 1020; n < 1030; n++ {
		for _, s := range []string{a(n), "'" + a(n) + "'", "\"" + a(n) + "\"", a(n) + "   # b", "[" + a(n) + " ]", "- - a: " + a(n)} {
			l, f := token.Row(s, 0)
			if f.Bad() != (n > 1024) || f.Bad() && f.Errno != api.ErrScalar || f.Bad() != (l == nil) {
				t.Errorf("%d, %.10q: %.40s", n, s, told(l, f))
			}
		}
	}
}

// P7.1: flows within one another, by turns and again and again, however many.
func TestDeep(t *testing.T) {
	const n = 200000
	s := strings.Repeat("[", n) + strings.Repeat("[],{},", n) + strings.Repeat("]", n)
	if l, f := token.Row(s, 0); f.Bad() || len(l) != len(s) || !paired(l) {
		t.Error(f, len(l))
	}
	s = strings.Repeat("[{", n) + strings.Repeat("}]", n)
	if l, f := token.Row(s, 0); f.Bad() || len(l) != len(s) || !paired(l) {
		t.Error(f, len(l))
	}
	if _, f := token.Row(s+"]", 0); f != (api.Fault{Errno: api.ErrSyntax, At: len(s)}) {
		t.Error(f)
	}
	if _, f := token.Row(s[:len(s)-1], 0); f != (api.Fault{Errno: api.ErrSyntax, At: len(s) - 1}) {
		t.Error(f)
	}
	if _, f := token.Row(s[:len(s)/2]+"]", 0); f != (api.Fault{Errno: api.ErrSyntax, At: len(s) / 2}) {
		t.Error(f)
	}
}

// P7.1: long rows.
func TestLong(t *testing.T) {
	const n = 200000
	for _, c := range []struct {
		s    string
		want int
	}{
		{strings.Repeat("- ", n) + "a", n + 1},
		{strings.Repeat("a: ", n), 2 * n},
		{"[" + strings.Repeat("a,", n) + "]", 2*n + 2},
		{strings.Repeat("'a' ", n), n},
		{strings.Repeat("&a ", n), n},
		{strings.Repeat(" ", n) + "a" + strings.Repeat(" ", n), 1},
		{"a #" + strings.Repeat("[", n), 1},
	} {
		if l, f := token.Row(c.s, 0); f.Bad() || len(l) != c.want {
			t.Errorf("%.10q: %v %d", c.s, f, len(l))
		}
	}
}

// R3, R5: what a call answers is its own, and the same each time.
func TestAnew(t *testing.T) {
	const s = "- a: [b, {c: 'd'}]"
	want := asked(s)
	l, _ := token.Row(s, 0)
	clear(l[:cap(l)])
	if got := asked(s); got != want {
		t.Errorf("%s, not %s", got, want)
	}
}
