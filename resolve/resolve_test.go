package resolve_test

import (
	"slices"
	"strings"
	"testing"

	"stanhope/resolve"
	"stanhope/short"
)

// nines is a text of that many nines.
func nines(n int) string { return strings.Repeat("9", n) }

// P4.1
func TestOf(t *testing.T) {
	cases := []struct{ plain, tag, content string }{
		{"", "null", ""},
		{"~", "null", ""},
		{"null", "null", ""},
		{"Null", "str", "Null"},
		{"NULL", "str", "NULL"},
		{"nul", "str", "nul"},
		{"nulls", "str", "nulls"},
		{"~~", "str", "~~"},
		{" ", "str", " "},
		{"true", "bool", "true"},
		{"false", "bool", "false"},
		{"True", "str", "True"},
		{"FALSE", "str", "FALSE"},
		{"yes", "str", "yes"},
		{"truer", "str", "truer"},
		{"0", "int", "0"},
		{"-0", "str", "-0"},
		{"00", "str", "00"},
		{"01", "str", "01"},
		{"-01", "str", "-01"},
		{"1", "int", "1"},
		{"9", "int", "9"},
		{"-1", "int", "-1"},
		{"10", "int", "10"},
		{"-12", "int", "-12"},
		{"1000", "int", "1000"},
		{"12345", "int", "12345"},
		{"+1", "str", "+1"},
		{"-", "str", "-"},
		{"--1", "str", "--1"},
		{"1-", "str", "1-"},
		{"1.0", "str", "1.0"},
		{"1e3", "str", "1e3"},
		{"0x1", "str", "0x1"},
		{"1_000", "str", "1_000"},
		{" 1", "str", " 1"},
		{"1 ", "str", "1 "},
		{"1\n", "str", "1\n"},
		{"1/", "str", "1/"},
		{"1:", "str", "1:"},
		{"\u0661", "str", "\u0661"},
		{nines(17), "int", nines(17)},
		{nines(18), "int", nines(18)},
		{nines(19), "str", nines(19)},
		{"-" + nines(18), "int", "-" + nines(18)},
		{"-" + nines(19), "str", "-" + nines(19)},
		{"1" + strings.Repeat("0", 17), "int", "1" + strings.Repeat("0", 17)},
		{"0" + nines(17), "str", "0" + nines(17)},
		{nines(17) + "a", "str", nines(17) + "a"},
		{nines(1 << 20), "str", nines(1 << 20)},
		{"a b", "str", "a b"},
		{"!a", "str", "!a"},
		{"\x00", "str", "\x00"},
		{"\xff", "str", "\xff"},
		{"null\xff", "str", "null\xff"},
	}
	for _, c := range cases {
		if tag, content := resolve.Of(c.plain); tag != c.tag || content != c.content {
			t.Errorf("%.40q: %s %.40q, not %s %.40q", c.plain, tag, content, c.tag, c.content)
		}
	}
}

// P4.1
func TestOwnAndCore(t *testing.T) {
	long := strings.Repeat("a", 32)
	for _, tag := range []string{"!a", "!-", "!0", "!a_b-1", "!null", "!" + long} {
		if !resolve.Own(tag) || resolve.Core(tag) {
			t.Errorf("%q: own %v, core %v", tag, resolve.Own(tag), resolve.Core(tag))
		}
	}
	for _, tag := range []string{"null", "bool", "int", "str"} {
		if resolve.Own(tag) || !resolve.Core(tag) {
			t.Errorf("%q: own %v, core %v", tag, resolve.Own(tag), resolve.Core(tag))
		}
	}
	for _, tag := range []string{"", "!", "!!", "!!a", "a", "a!", " !a", "!a ", "!a b", "!a.b", "!é", "!\xff", "!a" + long, "seq", "map", "Null", "str ", "!!str", "other"} {
		if resolve.Own(tag) || resolve.Core(tag) {
			t.Errorf("%q: own %v, core %v", tag, resolve.Own(tag), resolve.Core(tag))
		}
	}
	if resolve.Null != "null" || resolve.Bool != "bool" || resolve.Int != "int" || resolve.Str != "str" || resolve.Seq != "seq" || resolve.Map != "map" {
		t.Error("the tags' words")
	}
}

// P4.1
func TestValid(t *testing.T) {
	for _, s := range []string{"", "a", "\x00\n\t\x7f", "é€\U0010ffff", "\ufffd", "\ufeff", "\ud7ff\ue000", strings.Repeat("é", 1<<16)} {
		if !resolve.Valid(s) {
			t.Errorf("%.40q", s)
		}
	}
	for _, s := range []string{"\xff", "a\x80", "\xc3", "é\xe2\x82", "\xc0\x80", "\xe0\x82\xa9", "\xed\xa0\x80", "\xf4\x90\x80\x80", strings.Repeat("a", 1<<16) + "\xff"} {
		if resolve.Valid(s) {
			t.Errorf("%.40q", s)
		}
	}
}

// P4.2
func TestRight(t *testing.T) {
	long := strings.Repeat("a", 1024)
	cases := []struct {
		tag, content string
		want         bool
	}{
		{"null", "", true},
		{"null", "~", false},
		{"null", "null", false},
		{"null", " ", false},
		{"bool", "true", true},
		{"bool", "false", true},
		{"bool", "True", false},
		{"bool", "", false},
		{"bool", "1", false},
		{"int", "0", true},
		{"int", "-1", true},
		{"int", nines(18), true},
		{"int", "-" + nines(18), true},
		{"int", nines(19), false},
		{"int", "-" + nines(19), false},
		{"int", "-0", false},
		{"int", "00", false},
		{"int", "", false},
		{"int", "x", false},
		{"int", "true", false},
		{"str", "", true},
		{"str", "1", true},
		{"str", "null", true},
		{"str", "a\nb\x00", true},
		{"str", long, true},
		{"str", long + "a", false},
		{"str", strings.Repeat("é", 512), true},
		{"str", strings.Repeat("é", 512) + "a", false},
		{"str", "\xff", false},
		{"str", "a\xed\xa0\x80", false},
		{"str", "\ufffd", true},
		{"!a", "", true},
		{"!a", "x", true},
		{"!a", long, true},
		{"!a", long + "a", false},
		{"!a", "\xff", false},
		{"!" + strings.Repeat("a", 32), "x", true},
		{"!" + strings.Repeat("a", 33), "x", false},
		{"!", "x", false},
		{"!a b", "x", false},
		{"", "", false},
		{"", "x", false},
		{"seq", "", false},
		{"map", "", false},
		{"Str", "x", false},
		{"other", "x", false},
	}
	for _, c := range cases {
		if got := resolve.Right(c.tag, c.content); got != c.want {
			t.Errorf("%q %.40q: %v", c.tag, c.content, got)
		}
	}
}

// P4.3: of every short text of the bytes that tell tags apart, and of some longer ones.
func TestOfMayBe(t *testing.T) {
	texts := []string{"null", "true", "false", "nulltrue", "é€", strings.Repeat("a", 1024), strings.Repeat("1", 1024), nines(18), "-" + nines(18), "-" + nines(19)}
	texts = slices.AppendSeq(texts, short.Texts(4, "0", "1", "9", "-", "~", " ", "a", "é", "\x00"))
	for _, s := range texts {
		tag, content := resolve.Of(s)
		if !resolve.Right(tag, content) || !resolve.Core(tag) {
			t.Fatalf("%.40q: %s %.40q may not be", s, tag, content)
		}
		if again, c := resolve.Of(content); again != tag || c != content {
			t.Fatalf("%.40q: %s %.40q, then %s %.40q", s, tag, content, again, c)
		}
		if tag != resolve.Null && content != s {
			t.Fatalf("%.40q: %s %.40q", s, tag, content)
		}
	}
}

// P4.3: what is no UTF-8, or is too long, is a str that may not be.
func TestOfMayNotBe(t *testing.T) {
	for _, s := range []string{"\xff", "1\xff", strings.Repeat("a", 1025), strings.Repeat("1", 1025)} {
		if tag, content := resolve.Of(s); tag != resolve.Str || content != s || resolve.Right(tag, content) {
			t.Errorf("%.40q: %s %.40q", s, tag, content)
		}
	}
}

// The chapter's example 1.
func TestExample(t *testing.T) {
	if tag, content := resolve.Of("~"); tag != resolve.Null || content != "" {
		t.Error(tag, content)
	}
	if tag, content := resolve.Of("-0"); tag != resolve.Str || content != "-0" {
		t.Error(tag, content)
	}
}
