package char_test

import (
	"math"
	"slices"
	"strings"
	"testing"
	"unicode/utf8"

	"stanhope/char"
	"stanhope/short"
)

const (
	digits  = "0123456789"
	letters = "abcdefghijklmnopqrstuvwxyzABCDEFGHIJKLMNOPQRSTUVWXYZ"
	flows   = ",[]{}"
	openers = flows + "-?:#&*!|>'\"%@`"
)

// has says whether one of the bytes of a text is c.
func has(s string, c byte) bool { return strings.IndexByte(s, c) >= 0 }

// P3.1: every byte.
func TestBytes(t *testing.T) {
	for n := range 256 {
		c := byte(n)
		if got, want := char.Word(c), has(letters+digits+"_-", c); got != want {
			t.Errorf("%q: a word's: %v", c, got)
		}
		if got, want := char.Flow(c), has(flows, c); got != want {
			t.Errorf("%q: a flow sign: %v", c, got)
		}
		if got, want := char.Opens(c), has(openers, c); got != want {
			t.Errorf("%q: opens: %v", c, got)
		}
	}
}

// P3.1: every byte as a name's, and as an easy text's first and second.
func TestBytesInTexts(t *testing.T) {
	for n := range 256 {
		c := string([]byte{byte(n)})
		word := has(letters+digits+"_-", byte(n))
		for _, s := range []string{c, "a" + c, c + "a", "a" + c + "a"} {
			if got := char.Name(s); got != word {
				t.Errorf("%q: a name: %v", s, got)
			}
		}
		for _, s := range []string{c, c + "a"} {
			if got, want := char.Easy(s), has(letters+"_", byte(n)); got != want {
				t.Errorf("%q: easy: %v", s, got)
			}
		}
		for _, s := range []string{"_" + c, "a" + c + "a"} {
			if got, want := char.Easy(s), word || has("./", byte(n)); got != want {
				t.Errorf("%q: easy: %v", s, got)
			}
		}
	}
}

// P3.1
func TestName(t *testing.T) {
	cases := []struct {
		s    string
		want bool
	}{
		{"", false},
		{"a", true},
		{"-", true},
		{"0", true},
		{"a_b-1", true},
		{"a b", false},
		{"a.b", false},
		{"é", false},
		{"a\xff", false},
		{"a\n", false},
		{strings.Repeat("a", 31), true},
		{strings.Repeat("-", 32), true},
		{strings.Repeat("a", 33), false},
		{strings.Repeat("a", 31) + ".", false},
		{strings.Repeat("a", 1<<20), false},
	}
	for _, c := range cases {
		if got := char.Name(c.s); got != c.want {
			t.Errorf("%.40q: %v", c.s, got)
		}
	}
}

// P3.1
func TestEasy(t *testing.T) {
	cases := []struct {
		s    string
		want bool
	}{
		{"", false},
		{"a", true},
		{"_", true},
		{"Z9", true},
		{"a/b.c-d_e", true},
		{"true", true},
		{"1a", false},
		{"-a", false},
		{".a", false},
		{"/a", false},
		{"a b", false},
		{"a:", false},
		{"é", false},
		{"aé", false},
		{"a\xff", false},
		{"a\n", false},
		{strings.Repeat("a", 5000), true},
		{strings.Repeat("a", 5000) + " ", false},
	}
	for _, c := range cases {
		if got := char.Easy(c.s); got != c.want {
			t.Errorf("%.40q: %v", c.s, got)
		}
	}
}

// P3.1: every character that UTF-8 has.
func TestShownCharacters(t *testing.T) {
	signs := [][2]rune{{0x20, 0x7E}, {0xA0, 0xD7FF}, {0xE000, 0xFEFE}, {0xFF00, 0xFFFD}, {0x10000, 0x10FFFF}}
	for r := rune(0); r <= utf8.MaxRune; r++ {
		if !utf8.ValidRune(r) {
			continue
		}
		want := slices.ContainsFunc(signs, func(x [2]rune) bool { return x[0] <= r && r <= x[1] })
		if got := char.Shown("é" + string(r) + "x"); got != want {
			t.Fatalf("%X: %v", r, got)
		}
	}
}

// P3.1: whole texts, and bytes that are no UTF-8, of which none is shown.
func TestShown(t *testing.T) {
	for _, s := range []string{"", " ", "a b", "é€\U00010000", "\ufffd", strings.Repeat("a", 70000)} {
		if !char.Shown(s) {
			t.Errorf("%.40q: not shown", s)
		}
	}
	for _, s := range []string{
		"\n", "a\n", "a\nb", "\t", "a\r", "\x00", "\x7f", "\u0085", "\ufeffa", "\ufffe",
		"\x80", "a\xff", "\ufffd\xff", "a\xc3", "\xc0\xa0", "\xe0\x82\xa9", "\xed\xa0\x80", "\xf4\x90\x80\x80",
		strings.Repeat("a", 70000) + "\n",
	} {
		if char.Shown(s) {
			t.Errorf("%.40q: shown", s)
		}
	}
}

// P3.2: a colon with every byte behind it.
func TestPartsByByte(t *testing.T) {
	for n := range 256 {
		s := "a:" + string([]byte{byte(n)})
		if got, want := char.Parts(s, 1, false), n == ' '; got != want {
			t.Errorf("%q: %v", s, got)
		}
		if got, want := char.Parts(s, 1, true), n == ' ' || has(flows, byte(n)); got != want {
			t.Errorf("%q in a flow: %v", s, got)
		}
		if got, want := char.Parts(s[2:], 0, true), n == ':'; got != want {
			t.Errorf("%q alone: %v", s[2:], got)
		}
	}
}

// P3.2
func TestParts(t *testing.T) {
	cases := []struct {
		s       string
		i       int
		out, in bool
	}{
		{"", 0, false, false},
		{"", -1, false, false},
		{":", 0, true, true},
		{":", 1, false, false},
		{":", -1, false, false},
		{":", math.MinInt, false, false},
		{":", math.MaxInt, false, false},
		{"a:", 0, false, false},
		{"a:", 1, true, true},
		{"a:", 2, false, false},
		{"a: b", 1, true, true},
		{"a:b", 1, false, false},
		{"a:]", 1, false, true},
		{"a:\nb", 1, false, false},
		{"a:\xff", 1, false, false},
		{"::", 0, false, false},
		{"::", 1, true, true},
	}
	for _, c := range cases {
		if got := char.Parts(c.s, c.i, false); got != c.out {
			t.Errorf("%q at %d: %v", c.s, c.i, got)
		}
		if got := char.Parts(c.s, c.i, true); got != c.in {
			t.Errorf("%q at %d in a flow: %v", c.s, c.i, got)
		}
	}
}

// P3.2: every byte as the first one: alone, ahead of another, of a blank, of a flow sign.
func TestPlainByByte(t *testing.T) {
	for n := range 256 {
		c := string([]byte{byte(n)})
		free := n != ' ' && !has(openers, byte(n))
		half := has("-?:", byte(n))
		cases := []struct {
			s       string
			out, in bool
		}{
			{c, free, free},
			{c + "a", free || half, free || half},
			{c + " a", free, free},
			{c + ",", free || half, free},
			{c + "\n", free || half, free || half},
		}
		for _, x := range cases {
			if _, got := char.Plain(x.s, 0, false); got != x.out {
				t.Errorf("%q: %v", x.s, got)
			}
			if _, got := char.Plain(x.s, 0, true); got != x.in {
				t.Errorf("%q in a flow: %v", x.s, got)
			}
		}
	}
}

// P3.2: where a plain text ends, out of a flow and in one; 0, if none may begin.
func TestPlain(t *testing.T) {
	cases := []struct {
		s       string
		i       int
		out, in int
	}{
		{"", 0, 0, 0},
		{"a", -1, 0, 0},
		{"a", 1, 0, 0},
		{"a", 2, 0, 0},
		{"a", math.MinInt, 0, 0},
		{"a", math.MaxInt, 0, 0},
		{"a", 0, 1, 1},
		{" a", 0, 0, 0},
		{" a", 1, 2, 2},
		{"a   ", 0, 1, 1},
		{"a  b  ", 0, 4, 4},
		{"a b: c", 0, 3, 3},
		{"a  : c", 0, 1, 1},
		{"a:b: c", 0, 3, 3},
		{"a:", 0, 1, 1},
		{"a::", 0, 2, 2},
		{"a:,b", 0, 4, 1},
		{"a,b", 0, 3, 1},
		{"a ,b", 0, 4, 1},
		{"a]", 0, 2, 1},
		{"x{}[]", 0, 5, 1},
		{"a#b #c", 0, 3, 3},
		{"a#", 0, 2, 2},
		{"a  # b", 0, 1, 1},
		{"a #", 0, 1, 1},
		{"a:#", 0, 3, 3},
		{"# a", 0, 0, 0},
		{" #a", 1, 0, 0},
		{"-", 0, 0, 0},
		{"- x", 0, 0, 0},
		{"-x, y", 0, 5, 2},
		{"--", 0, 2, 2},
		{"-,", 0, 2, 0},
		{"-#", 0, 2, 2},
		{"?x", 0, 2, 2},
		{"? x", 0, 0, 0},
		{":x", 0, 2, 2},
		{": x", 0, 0, 0},
		{"::", 0, 1, 1},
		{"-:", 0, 1, 1},
		{":]", 0, 2, 0},
		{"[a", 1, 2, 2},
		{"'a'", 0, 0, 0},
		{"a'b\"c&d*e!f|g>h%i@j`k", 0, 21, 21},
		{"a\nb: c", 0, 3, 3},
		{"a \n", 0, 3, 3},
		{"a\t# b", 0, 5, 5},
		{"\xff\xfe: a", 0, 2, 2},
		{"é #", 0, 2, 2},
		{"é", 1, 2, 2},
	}
	for _, c := range cases {
		if end, ok := char.Plain(c.s, c.i, false); end != c.out || ok != (c.out > 0) {
			t.Errorf("%q at %d: %d %v, not %d", c.s, c.i, end, ok, c.out)
		}
		if end, ok := char.Plain(c.s, c.i, true); end != c.in || ok != (c.in > 0) {
			t.Errorf("%q at %d in a flow: %d %v, not %d", c.s, c.i, end, ok, c.in)
		}
	}
}

// P3.2: a long line.
func TestLongPlain(t *testing.T) {
	s := strings.Repeat("a ", 1<<20)
	if end, ok := char.Plain(s, 2, true); end != len(s)-1 || !ok {
		t.Error(end, ok)
	}
	s = "a" + strings.Repeat(" ", 1<<20)
	if end, ok := char.Plain(s, 0, false); end != 1 || !ok {
		t.Error(end, ok)
	}
}

// slowParts is whether a colon parts at a place, as the words say it.
func slowParts(s string, i int, flow bool) bool {
	if !strings.HasPrefix(s[i:], ":") {
		return false
	}
	behind := s[i+1:]
	return behind == "" || behind[0] == ' ' || flow && has(flows, behind[0])
}

// slowPlain is where a plain text ends, as the words say it; 0, if none may begin.
func slowPlain(s string, i int, flow bool) int {
	if i == len(s) || s[i] == ' ' {
		return 0
	}
	if has(openers, s[i]) {
		bare := i+1 == len(s) || s[i+1] == ' ' || flow && has(flows, s[i+1])
		if !has("-?:", s[i]) || bare {
			return 0
		}
	}
	end := i + 1
	for end < len(s) && !slowParts(s, end, flow) && !strings.HasSuffix(s[:end+1], " #") && !(flow && has(flows, s[end])) {
		end++
	}
	for s[end-1] == ' ' {
		end--
	}
	return end
}

// P3.2, P3.3: every place of every short line.
func TestShortLines(t *testing.T) {
	for s := range short.Texts(6, strings.Split(" a:#-,'", "")...) {
		for i := range len(s) + 1 {
			for _, flow := range []bool{false, true} {
				parts := i < len(s) && slowParts(s, i, flow)
				if got := char.Parts(s, i, flow); got != parts {
					t.Fatalf("%q at %d, %v: %v", s, i, flow, got)
				}
				want := slowPlain(s, i, flow)
				end, ok := char.Plain(s, i, flow)
				if end != want || ok != (want > 0) {
					t.Fatalf("%q at %d, %v: %d %v, not %d", s, i, flow, end, ok, want)
				}
				if ok {
					whole(t, s, i, end, flow)
				}
			}
		}
	}
}

// whole is P3.3 of the plain text between two places of a line.
func whole(t *testing.T, s string, i, end int, flow bool) {
	t.Helper()
	if end <= i || s[i] == ' ' || s[end-1] == ' ' {
		t.Fatalf("%q from %d to %d, %v", s, i, end, flow)
	}
	for k := i + 1; k < end; k++ {
		if char.Parts(s, k, flow) {
			t.Fatalf("%q from %d to %d, %v: a colon parts at %d", s, i, end, flow, k)
		}
	}
}

// The chapter's example 1.
func TestExample(t *testing.T) {
	if end, ok := char.Plain("a b: c", 0, false); end != 3 || !ok {
		t.Error(end, ok)
	}
}
