package quote_test

import (
	"fmt"
	"math"
	"strconv"
	"strings"
	"testing"
	"unicode/utf8"

	"stanhope/api"
	"stanhope/quote"
	"stanhope/short"
	"stanhope/text"
)

// answer is what a text that is read is, where it ends, and its fault.
type answer struct {
	content string
	next    int
	fault   api.Fault
}

// good is the answer of a content that ends at a place.
func good(content string, next int) answer { return answer{content: content, next: next} }

// bad is the answer of an error at a place.
func bad(e api.Errno, at int) answer { return answer{fault: api.Fault{Errno: e, At: at}} }

func single(s string, at int) answer {
	content, next, f := quote.ReadSingle(s, at)
	return answer{content, next, f}
}

func double(s string, at int) answer {
	content, next, f := quote.ReadDouble(s, at)
	return answer{content, next, f}
}

// a is a text of that many a.
func a(n int) string { return strings.Repeat("a", n) }

// P5.1: single-quoted.
func TestReadSingle(t *testing.T) {
	cases := []struct {
		s    string
		at   int
		want answer
	}{
		{"''", 0, good("", 2)},
		{"'a'", 0, good("a", 3)},
		{"x'a''b' c", 1, good("a'b", 7)},
		{"''''", 0, good("'", 4)},
		{"''''''", 0, good("''", 6)},
		{"'a' 'b'", 0, good("a", 3)},
		{"'a' 'b'", 4, good("b", 7)},
		{"'a'' 'b'", 0, good("a' ", 6)},
		{"'a''b'", 2, good("", 4)},
		{"'a''b'", 3, good("b", 6)},
		{`'\n"\'`, 0, good(`\n"\`, 6)},
		{`'\q\'`, 0, good(`\q\`, 5)},
		{"'é\u20ac'", 0, good("é\u20ac", 7)},
		{"'a: #, ]'", 0, good("a: #, ]", 9)},
		{"'\xff\xc3'\xa9", 0, good("\xff\xc3", 4)},
		{"'\x00\t\ufeff'", 0, good("\x00\t\ufeff", 7)},
		{"'", 0, bad(api.ErrSyntax, 1)},
		{"'a", 0, bad(api.ErrSyntax, 2)},
		{"'''", 0, bad(api.ErrSyntax, 3)},
		{"  'a''", 2, bad(api.ErrSyntax, 6)},
		{"''", 1, bad(api.ErrSyntax, 2)},
		{"'a'", 1, bad(api.ErrSyntax, 1)},
		{"\"a\"", 0, bad(api.ErrSyntax, 0)},
		{"a", 0, bad(api.ErrSyntax, 0)},
		{"", 0, bad(api.ErrSyntax, 0)},
		{"''", 2, bad(api.ErrSyntax, 2)},
		{"''", 3, bad(api.ErrSyntax, 3)},
		{"''", -1, bad(api.ErrSyntax, -1)},
		{"''", math.MaxInt, bad(api.ErrSyntax, math.MaxInt)},
		{"''", math.MinInt, bad(api.ErrSyntax, math.MinInt)},
		{"-'" + a(1024) + "'", 1, good(a(1024), 1027)},
		{"-'" + a(1025) + "'", 1, bad(api.ErrScalar, 1)},
		{"-'" + a(1025), 1, bad(api.ErrSyntax, 1027)},
		{"'" + strings.Repeat("''", 1024) + "'", 0, good(strings.Repeat("'", 1024), 2050)},
		{"'" + strings.Repeat("''", 1025) + "'", 0, bad(api.ErrScalar, 0)},
		{"'" + strings.Repeat("é", 512) + "'", 0, good(strings.Repeat("é", 512), 1026)},
		{"'" + strings.Repeat("é", 513) + "'", 0, bad(api.ErrScalar, 0)},
	}
	for _, c := range cases {
		if got := single(c.s, c.at); got != c.want {
			t.Errorf("ReadSingle(%q, %d): %#v, not %#v", c.s, c.at, got, c.want)
		}
	}
}

// P5.1: double-quoted.
func TestReadDouble(t *testing.T) {
	cases := []struct {
		s    string
		at   int
		want answer
	}{
		{`""`, 0, good("", 2)},
		{`"a"`, 0, good("a", 3)},
		{`x"a" c`, 1, good("a", 4)},
		{`"a""b"`, 0, good("a", 3)},
		{`"a""b"`, 3, good("b", 6)},
		{`"it's"`, 0, good("it's", 6)},
		{`"\\"`, 0, good(`\`, 4)},
		{`"\\\\"`, 0, good(`\\`, 6)},
		{`"\""`, 0, good(`"`, 4)},
		{`"a\"b"`, 3, good("b", 6)},
		{`"\n\t"`, 0, good("\n\t", 6)},
		{`"\\n"`, 0, good(`\n`, 5)},
		{`"a\x41\u00e9\n"`, 0, good("aAé\n", 15)},
		{`"\x4a\x4A\x4aA"`, 0, good("JJJA", 15)},
		{`"\x00"`, 0, good("\x00", 6)},
		{`"\x7f\x80\xff\xFF"`, 0, good("\x7f\u0080ÿÿ", 18)},
		{`"\u0000\u0022\u005C"`, 0, good("\x00\"\\", 20)},
		{`"\u20ac\u20AC5"`, 0, good("\u20ac\u20ac5", 15)},
		{`"\ud7ff\ue000"`, 0, good("\ud7ff\ue000", 14)},
		{`"\ufeff\uFFFE\uffff"`, 0, good("\ufeff\ufffe\uffff", 20)},
		{`"\xe9"`, 0, good("é", 6)},
		{"\"é\t\x00\ufeff\"", 0, good("é\t\x00\ufeff", 9)},
		{"\"\xff\xc3\"\xa9", 0, good("\xff\xc3", 4)},
		{`"\q"`, 0, bad(api.ErrEscape, 1)},
		{`"a\'"`, 0, bad(api.ErrEscape, 2)},
		{`"\N"`, 0, bad(api.ErrEscape, 1)},
		{`"\T"`, 0, bad(api.ErrEscape, 1)},
		{`"\X41"`, 0, bad(api.ErrEscape, 1)},
		{`"\U0041"`, 0, bad(api.ErrEscape, 1)},
		{`"\0"`, 0, bad(api.ErrEscape, 1)},
		{`"\/"`, 0, bad(api.ErrEscape, 1)},
		{`"\ "`, 0, bad(api.ErrEscape, 1)},
		{`"\x"`, 0, bad(api.ErrEscape, 1)},
		{`"\x4"`, 0, bad(api.ErrEscape, 1)},
		{`"\x4g"`, 0, bad(api.ErrEscape, 1)},
		{`"\xg4"`, 0, bad(api.ErrEscape, 1)},
		{`"\x+4"`, 0, bad(api.ErrEscape, 1)},
		{`"\x-4"`, 0, bad(api.ErrEscape, 1)},
		{`"\x 4"`, 0, bad(api.ErrEscape, 1)},
		{`"\u004"`, 0, bad(api.ErrEscape, 1)},
		{`"\u00_4"`, 0, bad(api.ErrEscape, 1)},
		{`"\u0x41"`, 0, bad(api.ErrEscape, 1)},
		{`"\u004G"`, 0, bad(api.ErrEscape, 1)},
		{`"\ud800"`, 0, bad(api.ErrEscape, 1)},
		{`"\uDFFF"`, 0, bad(api.ErrEscape, 1)},
		{`"\ud83d\ude00"`, 0, bad(api.ErrEscape, 1)},
		{`"\n\\\q\z"`, 0, bad(api.ErrEscape, 5)},
		{`"\`, 0, bad(api.ErrEscape, 1)},
		{`"\x`, 0, bad(api.ErrEscape, 1)},
		{`"ab\x4`, 0, bad(api.ErrEscape, 3)},
		{`"\u00e`, 0, bad(api.ErrEscape, 1)},
		{"\"\\\xff\"", 0, bad(api.ErrEscape, 1)},
		{`"`, 0, bad(api.ErrSyntax, 1)},
		{`"a`, 0, bad(api.ErrSyntax, 2)},
		{`"\"`, 0, bad(api.ErrSyntax, 3)},
		{`"\x41`, 0, bad(api.ErrSyntax, 5)},
		{` "\u0041`, 1, bad(api.ErrSyntax, 8)},
		{`'a'`, 0, bad(api.ErrSyntax, 0)},
		{`a"b"`, 0, bad(api.ErrSyntax, 0)},
		{`\"b"`, 0, bad(api.ErrSyntax, 0)},
		{``, 0, bad(api.ErrSyntax, 0)},
		{`a`, 5, bad(api.ErrSyntax, 5)},
		{`""`, 2, bad(api.ErrSyntax, 2)},
		{`""`, -1, bad(api.ErrSyntax, -1)},
		{`""`, math.MaxInt, bad(api.ErrSyntax, math.MaxInt)},
		{`""`, math.MinInt, bad(api.ErrSyntax, math.MinInt)},
		{`-"` + a(1024) + `"`, 1, good(a(1024), 1027)},
		{`-"` + a(1025) + `"`, 1, bad(api.ErrScalar, 1)},
		{`-"` + a(1025), 1, bad(api.ErrSyntax, 1027)},
		{`-"` + a(1025) + `\q"`, 1, bad(api.ErrEscape, 1027)},
		{`"` + strings.Repeat(`\x41`, 1024) + `"`, 0, good(strings.Repeat("A", 1024), 4098)},
		{`"` + strings.Repeat(`\x41`, 1025) + `"`, 0, bad(api.ErrScalar, 0)},
		{`"` + strings.Repeat(`\xe9`, 512) + `"`, 0, good(strings.Repeat("é", 512), 2050)},
		{`"` + strings.Repeat(`\xe9`, 512) + `a"`, 0, bad(api.ErrScalar, 0)},
	}
	for _, c := range cases {
		if got := double(c.s, c.at); got != c.want {
			t.Errorf("ReadDouble(%q, %d): %#v, not %#v", c.s, c.at, got, c.want)
		}
	}
}

// P5.1: what each byte is behind a \.
func TestReadDoubleEscapes(t *testing.T) {
	sure := map[byte]string{'\\': `\`, '"': `"`, 'n': "\n", 't': "\t"}
	for c := range 256 {
		s := "\"-\\" + string([]byte{byte(c)}) + "\""
		want := bad(api.ErrEscape, 2)
		if content, ok := sure[byte(c)]; ok {
			want = good("-"+content, 5)
		}
		if got := double(s, 0); got != want {
			t.Errorf("ReadDouble(%q): %#v, not %#v", s, got, want)
		}
	}
}

// digit is a byte's number as a digit; less than 0, if it is none.
func digit(c byte) rune {
	n := strings.IndexByte("0123456789abcdefABCDEF", c)
	if n > 15 {
		n -= 6
	}
	return rune(n)
}

// P5.1: each byte, where a digit should stand.
func TestReadDoubleDigits(t *testing.T) {
	for c := range 256 {
		n := digit(byte(c))
		for place := range 6 {
			digits := []byte("000000")
			digits[place] = byte(c)
			s := `"\x` + string(digits[:2]) + `\u` + string(digits[2:]) + `"`
			var want answer
			switch {
			case n < 0 && place < 2:
				want = bad(api.ErrEscape, 1)
			case n < 0:
				want = bad(api.ErrEscape, 5)
			case place < 2:
				want = good(string(n<<(4-4*place))+"\x00", 12)
			default:
				want = good("\x00"+string(n<<(20-4*place)), 12)
			}
			if got := double(s, 0); got != want {
				t.Errorf("ReadDouble(%q): %#v, not %#v", s, got, want)
			}
		}
	}
}

// P5.1: each number.
func TestReadDoubleNumbers(t *testing.T) {
	for n := range 0x10000 {
		for _, form := range []string{`-"\u%04x"`, `-"\u%04X"`} {
			s := fmt.Sprintf(form, n)
			want := good(string(rune(n)), 9)
			if n >= 0xD800 && n <= 0xDFFF {
				want = bad(api.ErrEscape, 2)
			}
			if got := double(s, 1); got != want {
				t.Fatalf("ReadDouble(%q): %#v, not %#v", s, got, want)
			}
		}
		if n < 0x100 {
			s := fmt.Sprintf(`-"\x%02x"`, n)
			if got, want := double(s, 1), good(string(rune(n)), 7); got != want {
				t.Fatalf("ReadDouble(%q): %#v, not %#v", s, got, want)
			}
		}
	}
}

// slowSingle reads as the chapter says it: the first place where an odd mark stands is the end.
func slowSingle(s string, at int) answer {
	if at < 0 || at >= len(s) || s[at] != '\'' {
		return bad(api.ErrSyntax, at)
	}
	for end := at + 1; end < len(s); end++ {
		if s[end] != '\'' {
			continue
		}
		inner := s[at+1 : end]
		if !strings.Contains(strings.ReplaceAll(inner, "''", ""), "'") && !strings.HasPrefix(s[end:], "''") {
			return good(strings.ReplaceAll(inner, "''", "'"), end+1)
		}
	}
	return bad(api.ErrSyntax, len(s))
}

// slowDouble reads by what is cut off at the left, part by part.
func slowDouble(s string, at int) answer {
	if at < 0 || !strings.HasPrefix(s[min(at, len(s)):], `"`) {
		return bad(api.ErrSyntax, at)
	}
	content := ""
	for rest := s[at+1:]; rest != ""; {
		at := len(s) - len(rest)
		width := 0
		for _, e := range []struct {
			head   string
			digits int
			means  string
		}{{`\\`, 0, `\`}, {`\"`, 0, `"`}, {`\n`, 0, "\n"}, {`\t`, 0, "\t"}, {`\x`, 2, ""}, {`\u`, 4, ""}} {
			behind, ok := strings.CutPrefix(rest, e.head)
			if !ok || len(behind) < e.digits || strings.Trim(behind[:e.digits], "0123456789abcdefABCDEF") != "" {
				continue
			}
			width = 2 + e.digits
			content += e.means
			if e.digits > 0 {
				n, _ := strconv.ParseInt(behind[:e.digits], 16, 32)
				if n >= 0xD800 && n <= 0xDFFF {
					return bad(api.ErrEscape, at)
				}
				content += string(rune(n))
			}
		}
		switch {
		case width > 0:
		case rest[0] == '"':
			return good(content, at+1)
		case rest[0] == '\\':
			return bad(api.ErrEscape, at)
		default:
			content += rest[:1]
			width = 1
		}
		rest = rest[width:]
	}
	return bad(api.ErrSyntax, len(s))
}

// P5.1: every short line, at every place, and at the places beside it.
func TestReadShort(t *testing.T) {
	for s := range short.Texts(6, "'", "''", "a", "\xc3", `"`, `\`) {
		for at := -1; at <= len(s)+1; at++ {
			if got, want := single(s, at), slowSingle(s, at); got != want {
				t.Fatalf("ReadSingle(%q, %d): %#v, not %#v", s, at, got, want)
			}
		}
	}
	for s := range short.Texts(6, `"`, `\`, "x", "u", "d8", "0", "n", "\xff") {
		for at := -1; at <= min(1, len(s)+1); at++ {
			if got, want := double(s, at), slowDouble(s, at); got != want {
				t.Fatalf("ReadDouble(%q, %d): %#v, not %#v", s, at, got, want)
			}
		}
		if got, want := double(`"`+s+`"`, 0), slowDouble(`"`+s+`"`, 0); got != want {
			t.Fatalf("ReadDouble(%q, 0): %#v, not %#v", `"`+s+`"`, got, want)
		}
	}
}

// P5.2: single-quoted.
func TestSingle(t *testing.T) {
	cases := []struct{ s, want string }{
		{"", "''"},
		{"a", "'a'"},
		{"'", "''''"},
		{"''", "''''''"},
		{"a'b", "'a''b'"},
		{"'a'", "'''a'''"},
		{`\"`, `'\"'`},
		{"é\n\t\x00", "'é\n\t\x00'"},
		{"\xff\xc3'", "'\xff\xc3'''"},
	}
	for _, c := range cases {
		if got := quote.Single(c.s); got != c.want {
			t.Errorf("Single(%q): %q, not %q", c.s, got, c.want)
		}
	}
	for c := range 256 {
		s := string([]byte{byte(c)})
		if got := quote.Single(s); c != '\'' && got != "'"+s+"'" {
			t.Errorf("Single(%q): %q", s, got)
		}
	}
}

// P5.2: double-quoted.
func TestDouble(t *testing.T) {
	cases := []struct{ s, want string }{
		{"", `""`},
		{"a", `"a"`},
		{"it's", `"it's"`},
		{`"`, `"\""`},
		{`\`, `"\\"`},
		{`\n`, `"\\n"`},
		{"\n\t", `"\n\t"`},
		{"\r\x00\x1f", `"\x0d\x00\x1f"`},
		{" ~\x7f", `" ~\x7f"`},
		{"\u0080\u009f\u00a0", "\"\\x80\\x9f\u00a0\""},
		{"ÿ\u0100", "\"ÿ\u0100\""},
		{"\ufefe\ufeff\uff00", "\"\ufefe\\ufeff\uff00\""},
		{"\ufffd\ufffe\uffff", "\"\ufffd\\ufffe\\uffff\""},
		{"\U00010000\U0001ffff\U0010ffff", "\"\U00010000\U0001ffff\U0010ffff\""},
		{"a\"\t\x01\ufeffé", "\"a\\\"\\t\\x01\\ufeffé\""},
		{"\xff", "\"\ufffd\""},
		{"\xc3\xa9\xc3", "\"é\ufffd\""},
		{"\xed\xa0\x80", "\"\ufffd\ufffd\ufffd\""},
		{"\xc0\x80", "\"\ufffd\ufffd\""},
		{"\xf4\x90\x80\x80", "\"\ufffd\ufffd\ufffd\ufffd\""},
		{"\xe2\x82", "\"\ufffd\ufffd\""},
	}
	for _, c := range cases {
		if got := quote.Double(c.s); got != c.want {
			t.Errorf("Double(%q): %q, not %q", c.s, got, c.want)
		}
	}
}

// slowDoubled is a character as the chapter says that it is written, double-quoted.
func slowDoubled(r rune) string {
	signs := r >= 0x20 && r <= 0x7E || r >= 0xA0 && r <= 0xD7FF || r >= 0xE000 && r <= 0xFFFD && r != 0xFEFF || r >= 0x10000
	switch {
	case r == '"' || r == '\\':
		return `\` + string(r)
	case r == '\n':
		return `\n`
	case r == '\t':
		return `\t`
	case signs:
		return string(r)
	case r < 0x100:
		return fmt.Sprintf(`\x%02x`, r)
	}
	return fmt.Sprintf(`\u%04x`, r)
}

// P5.2, P5.3: every character that UTF-8 has.
func TestCharacters(t *testing.T) {
	for r := rune(0); r <= utf8.MaxRune; r++ {
		if !utf8.ValidRune(r) {
			continue
		}
		s := "é" + string(r) + "x"
		d := quote.Double(s)
		if want := `"é` + slowDoubled(r) + `x"`; d != want {
			t.Fatalf("Double(%q): %q, not %q", s, d, want)
		}
		back(t, s)
	}
}

// back tests that a text that is UTF-8 and not too long is read as it was written.
func back(t *testing.T, s string) {
	t.Helper()
	q, d := quote.Single(s), quote.Double(s)
	if got, want := single("- "+q+" #", 2), good(s, 2+len(q)); got != want {
		t.Fatalf("ReadSingle of %q: %#v, not %#v", q, got, want)
	}
	if got, want := double("- "+d+" #", 2), good(s, 2+len(d)); got != want {
		t.Fatalf("ReadDouble of %q: %#v, not %#v", d, got, want)
	}
	shown(t, d)
}

// shown tests that a text has signs alone and no line feed.
func shown(t *testing.T, d string) {
	t.Helper()
	if strings.Contains(d, "\n") || len(d) <= api.MaxText && text.Check(d).Bad() {
		t.Fatalf("Double wrote %q", d)
	}
}

// P5.3: short texts, and the longest.
func TestBack(t *testing.T) {
	parts := []string{"'", `"`, `\`, "\n", "\t", "n", "x41", "\x00", "\ufeff", "é", "\U0001f600"}
	for s := range short.Texts(4, parts...) {
		back(t, s)
	}
	for _, p := range []string{"'", `"`, `\`, "\n", "\x01", "é", "\U00010000"} {
		back(t, strings.Repeat(p, api.MaxScalar/len(p)))
	}
}

// P5.3: what isn't UTF-8 is written by signs, too, and read as characters FFFD.
func TestNoUTF8(t *testing.T) {
	for s := range short.Texts(4, "\xff", "\xc3", "\xa9", "\xe2\x82", "\xed\xa0\x80", "\xf0\x9f", "\n", `"`) {
		d := quote.Double(s)
		shown(t, d)
		want := good(string([]rune(s)), len(d))
		if got := double(d, 0); got != want {
			t.Fatalf("ReadDouble(%q): %#v, not %#v", d, got, want)
		}
		q := quote.Single(s)
		if got, want := single(q, 0), good(s, len(q)); got != want {
			t.Fatalf("ReadSingle(%q): %#v, not %#v", q, got, want)
		}
	}
}

// P5.2, P5.3: what is too long is written, and not read.
func TestTooLong(t *testing.T) {
	for _, s := range []string{a(1025), strings.Repeat("é", 513), strings.Repeat("'", 1025)} {
		if got := single(quote.Single(s), 0); got != bad(api.ErrScalar, 0) {
			t.Errorf("ReadSingle of %d bytes: %#v", len(s), got)
		}
		if got := double(quote.Double(s), 0); got != bad(api.ErrScalar, 0) {
			t.Errorf("ReadDouble of %d bytes: %#v", len(s), got)
		}
	}
}

// The chapter's example.
func TestExample(t *testing.T) {
	if got := quote.Double("\n\"e\""); got != `"\n\"e\""` {
		t.Errorf("Double: %q", got)
	}
}
