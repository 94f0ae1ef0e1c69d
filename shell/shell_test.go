package shell_test

import (
	"slices"
	"strconv"
	"strings"
	"testing"

	"stanhope/api"
	"stanhope/quote"
	"stanhope/shell"
)

// links are sequences beside one another, of each of which the one behind it has an alias; the last one stands ahead of all by its key.
func links(n int) string {
	s := "{c: [&0 []"
	for i := range n - 1 {
		s += ", &" + strconv.Itoa(i+1) + " [*" + strconv.Itoa(i) + "]"
	}
	return s + "], b: *" + strconv.Itoa(n-1) + "}"
}

// doubled are sequences each of which has the one ahead of it twice.
func doubled(n int) string {
	s := "[&0 x"
	for i := range n {
		s += ", &" + strconv.Itoa(i+1) + " [*" + strconv.Itoa(i) + ", *" + strconv.Itoa(i) + "]"
	}
	return s + "]"
}

// texts are the texts of which most rows below have some.
var texts = map[string]string{
	"l":     "source: {record: {a: any, b?: any}}\nlens: {project: {keep: [a]}}\n",
	"up":    "source: {record: {k: {list: str}}}\nlens: {hoist: k}\n",
	"down":  "source: any\nlens: {plunge: k}\n",
	"copy":  "source: str\nlens: copy\n",
	"s":     "b: &x [1]\na: *x\n",
	"v":     "a: [1, 2]",
	"w":     "{a: [1]}",
	"abc":   "[a, b, c]",
	"abd":   "- a\n- 'b'\n- d\n",
	"bad":   " [",
	"worse": "a: x\nb: *x",
	"bytes": "x\xff\"\\\n\t",
	"none":  "# x\n",
	"empty": "",
	"two":   "{b: x, a: 'y'}\n---\n- 1\n",
	"loop":  "&x [*x]",
	"loops": "&x [[*x]]",
	"twice": "[&x {k: [y]}, *x]",
	"tree":  "[{k: [y]}, {k: ['y']}]",
	"deep":  strings.Repeat("[", 64) + strings.Repeat("]", 64),
	"links": links(64),
	"wide":  "[&x [" + strings.TrimSuffix(strings.Repeat("a, ", 300), ", ") + "]" + strings.Repeat(", *x", 12) + "]",
	"wider": "[&x [" + strings.TrimSuffix(strings.Repeat("a, ", 300), ", ") + "]" + strings.Repeat(", *x", 13) + "]",
	"ten":   doubled(10),
	"20":    doubled(20),
}

// ready is a shell with those texts.
func ready(t *testing.T) *shell.Shell {
	t.Helper()
	s := shell.New()
	for name, text := range texts {
		if l := s.Do(let(name, text)); !slices.Equal(l, []string{"ok"}) {
			t.Fatalf("%s: %q", name, l)
		}
	}
	return s
}

// held holds which texts a shell has: those above, but that one name stands for another, or for a text now.
func held(t *testing.T, s *shell.Shell, what, name, text string) {
	t.Helper()
	want := func(n string) (string, bool) {
		if n == name {
			return text, true
		}
		w, ok := texts[n]
		return w, ok
	}
	names := append(slices.Collect(func(yield func(string) bool) {
		for n := range texts {
			yield(n)
		}
	}), "A", "x", "y", "", "ok", "let", "\xff", strings.Repeat("n", 33))
	for _, n := range names {
		got, ok := s.Text(n)
		if w, has := want(n); got != w || ok != has {
			t.Errorf("%s: %s is %.200q, %v, not %.200q, %v", what, n, got, ok, w, has)
		}
	}
}

// one is the command of a line.
func one(t *testing.T, line string) shell.Command {
	t.Helper()
	l, _, e := shell.Parse(line)
	if len(l) != 1 || e != api.OK {
		t.Fatalf("%q: %v, %v", line, l, e)
	}
	return l[0]
}

// P28.2: commands that tell of texts.
func TestTells(t *testing.T) {
	for _, c := range []struct{ line, want string }{
		{"show abc", `"[a, b, c]"`},
		{"show empty", `""`},
		{"show bytes", "\"x\ufffd\\\"\\\\\\n\\t\""},
		{"show l", `"source: {record: {a: any, b?: any}}\nlens: {project: {keep: [a]}}\n"`},
		{"check l", "{map a:any b?:any} -> {map a:any}"},
		{"check up", "{map k:[seq str]} -> [seq str]"},
		{"check copy", "error lens lens 18"},
		{"check bad", "error lens syntax 2"},
		{"check abc", "error lens form 0"},
		{"check none", "error lens none 0"},
		{"check two", "error lens many 19"},
		{"same abc abc", "yes"},
		{"same abc abd", "no"},
		{"same v w", "no"},
		{"same twice tree", "no"},
		{"same loop loop", "yes"},
		{"same loop loops", "no"},
		{"same s s", "yes"},
		{"same two bad", "error text many 19"},
		{"same abc none", "error text none 0"},
		{"same none two", "error text none 0"},
		{"same abc bytes", "error text byte 1"},
		{"alike abc abc", "yes"},
		{"alike abc abd", "no"},
		{"alike twice tree", "yes"},
		{"alike loop loops", "yes"},
		{"alike bad worse", "error text syntax 2"},
		{"alike worse bad", "error text anchor 8"},
		{"alike abc worse", "error text anchor 8"},
		{"diff abc abc", "none"},
		{"diff abc abd", `/2: str "c" | str "d"`},
		{"diff abd abc", `/2: str "d" | str "c"`},
		{"diff v w", `/a: [seq 2] | [seq 1]`},
		{"diff s v", `/: {map a b} | {map a}|/a: [seq 1] | [seq 2]`},
		{"diff twice tree", "none"},
		{"diff loop loops", "none"},
		{"diff abc two", "error text many 19"},
		{"diff empty bad", "error text none 0"},
		{"size abc", "4 4"},
		{"size s", "3 5"},
		{"size twice", "4 7"},
		{"size tree", "7 7"},
		{"size loop", "1 -"},
		{"size loops", "2 -"},
		{"size ten", "12 4084"},
		{"size 20", "22 -"},
		{"size v", "4 4"},
		{"size two", "error text many 19"},
		{"size bad", "error text syntax 2"},
		{"audit l s v", "source {map a:any b?:any}|view {map a:any}|getput holds|putget holds|createget holds"},
		{"audit l v s", "source {map a:any b?:any}|view {map a:any}|getput holds|putget skipped|createget skipped"},
		{"audit l bad w", "source {map a:any b?:any}|view {map a:any}|getput skipped|putget skipped|createget holds"},
		{"audit copy s v", "error lens lens 18"},
		{"audit s bad bad", "error lens form 0"},
		// A name that stands for no text yet: the first such one.
		{"show x", "unknown x"},
		{"check x", "unknown x"},
		{"size A", "unknown A"},
		{"same x y", "unknown x"},
		{"same abc y", "unknown y"},
		{"same bad y", "unknown y"},
		{"alike y x", "unknown y"},
		{"diff abc x", "unknown x"},
		{"diff x bad", "unknown x"},
		{"audit l s y", "unknown y"},
		{"audit l x y", "unknown x"},
		{"audit bad x s", "unknown x"},
		{"show L", "unknown L"},
	} {
		s := ready(t)
		for range 2 {
			if l := s.Do(one(t, c.line)); strings.Join(l, "|") != c.want {
				t.Errorf("%s: %q, not %q", c.line, strings.Join(l, "|"), c.want)
			}
			held(t, s, c.line, "l", texts["l"])
		}
	}
}

// P28.2: commands by which a name is a text from then on.
func TestMakes(t *testing.T) {
	for _, c := range []struct{ line, name, want string }{
		{`let A "x\n"`, "A", "x\n"},
		{`let A ""`, "A", ""},
		{`let abc "["`, "abc", "["},
		{"let A \"\xff\"", "A", "\xff"},
		{"get A l s", "A", "a:\n  - 1\n"},
		{"get s l s", "s", "a:\n  - 1\n"},
		{"get l l s", "l", "a:\n  - 1\n"},
		{"get A down abc", "A", "k:\n  - a\n  - b\n  - c\n"},
		{"put A l v s", "A", "a:\n  - 1\n  - 2\nb:\n  - 1\n"},
		{"put A l w s", "A", "a: &a1\n  - 1\nb: *a1\n"},
		{"put v l v s", "v", "a:\n  - 1\n  - 2\nb:\n  - 1\n"},
		{"create A l v", "A", "a:\n  - 1\n  - 2\n"},
		{"create A up abc", "A", "k:\n  - a\n  - b\n  - c\n"},
		{"create abc up abc", "abc", "k:\n  - a\n  - b\n  - c\n"},
		{"canon A abd", "A", "- a\n- b\n- d\n"},
		{"canon A s", "A", "a: &a1\n  - 1\nb: *a1\n"},
		{"canon A two", "A", "---\na: y\nb: x\n---\n- 1\n"},
		{"canon A none", "A", ""},
		{"canon empty empty", "empty", ""},
		{"canon loop loop", "loop", "&a1\n- *a1\n"},
		{"fold A tree", "A", "- &a1\n  k:\n    - y\n- *a1\n"},
		{"fold A twice", "A", "- &a1\n  k:\n    - y\n- *a1\n"},
		{"fold A loops", "A", "&a1\n- *a1\n"},
		{"fold A abc", "A", "- a\n- b\n- c\n"},
		{"fold abd abd", "abd", "- a\n- b\n- d\n"},
		{"tree A twice", "A", "-\n  k:\n    - y\n-\n  k:\n    - y\n"},
		{"tree A s", "A", "a:\n  - 1\nb:\n  - 1\n"},
		{"tree A tree", "A", "-\n  k:\n    - y\n-\n  k:\n    - y\n"},
		{"tree A wide", "A", strings.Repeat("-\n"+strings.Repeat("  - a\n", 300), 13)},
	} {
		s := ready(t)
		for range 2 {
			if l := s.Do(one(t, c.line)); !slices.Equal(l, []string{"ok"}) {
				t.Errorf("%s: %q", c.line, l)
			}
			held(t, s, c.line, c.name, c.want)
			if c.name != "A" {
				break
			}
		}
	}
}

// P28.2: what is wrong with them; nothing is changed.
func TestMakesFault(t *testing.T) {
	for _, c := range []struct{ line, want string }{
		{"get A copy s", "error lens lens 18"},
		{"get A bad bad", "error lens syntax 2"},
		{"get A l bad", "error source syntax 2"},
		{"get A l abc", "error source type 0"},
		{"get s l two", "error source many 19"},
		{"get s l none", "error source none 0"},
		{"get A up s", "error source type 0"},
		{"get A down deep", "error result deep 0"},
		{"get down down deep", "error result deep 0"},
		{"put A copy bad bad", "error lens lens 18"},
		{"put A l bad worse", "error view syntax 2"},
		{"put A l abc worse", "error view type 0"},
		{"put A l v worse", "error source anchor 8"},
		{"put v l v abc", "error source type 0"},
		{"put A l s v", "error view type 0"},
		{"put A up abc bytes", "error source byte 1"},
		{"create A s v", "error lens form 0"},
		{"create A l worse", "error view anchor 8"},
		{"create v l s", "error view type 0"},
		{"create A up none", "error view none 0"},
		{"canon A bad", "error text syntax 2"},
		{"canon A worse", "error text anchor 8"},
		{"canon A bytes", "error text byte 1"},
		{"canon A links", "error result deep 2"},
		{"canon links links", "error result deep 2"},
		{"fold A two", "error text many 19"},
		{"fold A none", "error text none 0"},
		{"fold A links", "error result deep 64"},
		{"fold two two", "error text many 19"},
		{"tree A bad", "error text syntax 2"},
		{"tree A empty", "error text none 0"},
		{"tree A two", "error text many 19"},
		{"tree A loop", "error result cycle 0"},
		{"tree loops loops", "error result cycle 0"},
		{"tree A wider", "error result nodes 4096"},
		{"tree A 20", "error result nodes 4096"},
		{"tree A links", "error result deep 64"},
		// A name that stands for no text yet: of all but the first.
		{"get A x y", "unknown x"},
		{"get A l y", "unknown y"},
		{"get A bad y", "unknown y"},
		{"get A A l", "unknown A"},
		{"get s x s", "unknown x"},
		{"put A l v x", "unknown x"},
		{"put A l y x", "unknown y"},
		{"put A x bad bad", "unknown x"},
		{"create A l A", "unknown A"},
		{"create A x A", "unknown x"},
		{"canon A x", "unknown x"},
		{"canon x x", "unknown x"},
		{"canon abc A", "unknown A"},
		{"fold A A", "unknown A"},
		{"fold x y", "unknown y"},
		{"tree A x", "unknown x"},
	} {
		s := ready(t)
		for range 2 {
			if l := s.Do(one(t, c.line)); !slices.Equal(l, []string{c.want}) {
				t.Errorf("%s: %q, not %q", c.line, l, c.want)
			}
			held(t, s, c.line, "l", texts["l"])
		}
	}
}

// P28.2: a text that is made may have more bytes than a let's, but not more than any.
func TestMakesLong(t *testing.T) {
	s := shell.New()
	x := strings.Repeat("x", 800)
	s.Do(let("a", "[&x "+x+strings.Repeat(", *x", 23)+"]"))
	s.Do(let("c", "[[&x "+x+strings.Repeat(", *x", 9)+"], &y ["+strings.Repeat("*x, ", 9)+"*x]"+strings.Repeat(", *y", 7)+"]"))
	want := strings.Repeat("- "+x+"\n", 24)
	for _, c := range []struct{ line, said string }{
		{"tree b a", "ok"},
		{"tree b c", "error result size 65536"},
		{"canon d b", "ok"},
		{"show d", quote.Double(want)},
		{"same b d", "yes"},
		{"size b", "25 25"},
	} {
		if l := s.Do(one(t, c.line)); !slices.Equal(l, []string{c.said}) {
			t.Errorf("%s: %.100q", c.line, l)
		}
		if text, _ := s.Text("b"); text != want {
			t.Errorf("%s: %d bytes", c.line, len(text))
		}
	}
}

// P28.2: of what Parse doesn't answer nothing is said or done.
func TestOdd(t *testing.T) {
	s := shell.New()
	for _, line := range []string{`let a "source: str\nlens: id\n"`, `let l "source: any\nlens: id\n"`} {
		s.Do(one(t, line))
	}
	for _, c := range odd() {
		if l := s.Do(c); len(l) != 0 {
			t.Errorf("%.200v: %q", c, l)
		}
		for _, name := range append(c.Names[:min(len(c.Names), 9)], "b", "") {
			if text, ok := s.Text(name); (ok || text != "") && name != "a" && name != "l" {
				t.Errorf("%.200v: %q is %q", c, name, text)
			}
		}
		if text, _ := s.Text("a"); text != "source: str\nlens: id\n" {
			t.Errorf("%.200v: %q", c, text)
		}
	}
	if l := s.Do(let("b", strings.Repeat("\xff", 1024))); !slices.Equal(l, []string{"ok"}) {
		t.Error(l)
	}
}

// P28.2: a nil shell says nothing and has no text; a zero one is as New's.
func TestNil(t *testing.T) {
	var none *shell.Shell
	for name, text := range texts {
		if l := none.Do(let(name, text)); len(l) != 0 {
			t.Errorf("%q", l)
		}
		if text, ok := none.Text(name); text != "" || ok {
			t.Errorf("%q", text)
		}
	}
	for _, line := range []string{"show a", "check a", "get a b c", "put a b c d", "create a b c", "canon a b", "fold a b", "tree a b", "same a a", "size a", "audit a b c"} {
		if l := none.Do(one(t, line)); len(l) != 0 {
			t.Errorf("%s: %q", line, l)
		}
		var zero shell.Shell
		if l, want := zero.Do(one(t, line)), shell.New().Do(one(t, line)); len(l) != 1 || !strings.HasPrefix(l[0], "unknown ") || !slices.Equal(l, want) {
			t.Errorf("%s: %q, %q", line, l, want)
		}
	}
	for _, c := range odd() {
		if l := none.Do(c); len(l) != 0 {
			t.Errorf("%.200v: %q", c, l)
		}
	}
	var zero shell.Shell
	if text, ok := zero.Text("a"); text != "" || ok {
		t.Errorf("%q", text)
	}
	if l := zero.Do(let("a", "x")); !slices.Equal(l, []string{"ok"}) {
		t.Error(l)
	}
	if text, ok := zero.Text("a"); text != "x" || !ok {
		t.Errorf("%q", text)
	}
	if l := zero.Do(one(t, "show a")); !slices.Equal(l, []string{`"x"`}) {
		t.Error(l)
	}
	other := shell.New()
	if _, ok := other.Text("a"); ok || len(other.Do(one(t, "show a"))) != 1 {
		t.Error("shells have texts in common")
	}
}

// P28.2: all that a script says.
func TestRun(t *testing.T) {
	for _, c := range []struct{ script, want string }{
		{"", ""},
		{"\n# show a\n  \n", ""},
		{"show a", "unknown a\n"},
		{"let a \"x: 1\\n\"\nlet b \"x: 2\\n\"\ndiff a b\n", "ok\nok\n/x: int \"1\" | int \"2\"\n"},
		{"let a \"[x, y]\"\nlet b \"[y, x]\"\n\ndiff a b\n# x\n  same a b\nsize a", "ok\nok\n/0: str \"x\" | str \"y\"\n/1: str \"y\" | str \"x\"\nno\n3 3\n"},
		{"let a \"x\"\nlet a \"y\"\nshow a", "ok\nok\n\"y\"\n"},
		{"let a \"[\"\ncanon a a\nshow a\nlet a \"'x'\"\ncanon a a\nshow a", "ok\nerror text syntax 1\n\"[\"\nok\nok\n\"x\\n\"\n"},
		{"show b\nlet b \"x\"\nshow b\n", "unknown b\nok\n\"x\"\n"},
		{"let l \"source: {list: str}\\nlens: {items: {plunge: k}}\\n\"\nlet s \"[a]\"\naudit l s s\ndiff s s",
			"ok\nok\nsource [seq str]\nview [seq {map k:str}]\ngetput holds\nputget skipped\ncreateget skipped\nnone\n"},
		// Errors of the script itself: nothing else is said.
		{"let a \"x\"\nx\n", "error script name 1\n"},
		{"let a \"x\"\n\n# x\nshow\nx", "error script form 3\n"},
		{"---", "error script name 0\n"},
		{strings.Repeat("show a\n", 400) + "\n  show b", "error script many 401\n"},
		{strings.Repeat("\n", 65537), "error script size 0\n"},
		{strings.Repeat("show a\n", 400), strings.Repeat("unknown a\n", 400)},
	} {
		for range 2 {
			if got := shell.Run(c.script); got != c.want {
				t.Errorf("%.300q: %.300q, not %.300q", c.script, got, c.want)
			}
		}
	}
}
