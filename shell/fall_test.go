package shell_test

import (
	"slices"
	"strconv"
	"strings"
	"testing"
	"unicode/utf8"

	"stanhope/api"
	"stanhope/audit"
	"stanhope/emit"
	"stanhope/graph"
	"stanhope/iso"
	"stanhope/load"
	"stanhope/quote"
	"stanhope/run"
	"stanhope/scribe"
	"stanhope/shell"
	"stanhope/sketch"
	"stanhope/strew"
	"stanhope/unfold"
)

// slow is texts by names; what is wrong ends a command by a panic with what is said.
type slow map[string]string

// end ends a command, if there is a fault.
func end(where string, f api.Fault) {
	if f.Bad() {
		panic("error " + where + " " + f.Word() + " " + strconv.Itoa(f.At))
	}
}

// ended ends a command, if there is a fault of layer 26.
func ended(s string, f run.Fault) string {
	end([]string{"none", "lens", "source", "view", "result"}[f.Part], f.Fault)
	return s
}

// written is the text of graphs.
func written(l ...graph.Graph) string {
	s, f := emit.Docs(l...)
	end("result", f)
	return s
}

// only is a text's only graph.
func only(s string) graph.Graph {
	d, f := load.One(s)
	end("text", f)
	return d.Graph
}

// do does a command and answers what it says.
func (s slow) do(c shell.Command) (said string) {
	defer func() {
		if what := recover(); what != nil {
			said = what.(string)
		}
	}()
	names := c.Names
	keeps := slices.Contains([]string{"let", "get", "put", "create", "canon", "fold", "tree"}, c.Word)
	if keeps {
		names = names[1:]
	}
	var x []string
	for _, name := range names {
		text, ok := s[name]
		if !ok {
			return "unknown " + name
		}
		x = append(x, text)
	}
	if keeps {
		s[c.Names[0]] = made(c, x)
		return "ok"
	}
	return answered(c.Word, x)
}

// made is what a command makes of texts.
func made(c shell.Command, x []string) string {
	switch c.Word {
	case "get":
		return ended(run.Get(x[0], x[1]))
	case "put":
		return ended(run.Put(x[0], x[1], x[2]))
	case "create":
		return ended(run.Create(x[0], x[1]))
	case "canon":
		l, f := load.Docs(x[0])
		end("text", f)
		var g []graph.Graph
		for _, d := range l {
			g = append(g, d.Graph)
		}
		return written(g...)
	case "fold":
		return written(unfold.Fold(only(x[0])))
	case "tree":
		g, f := unfold.Tree(only(x[0]))
		end("result", f)
		return written(g)
	}
	return c.Text
}

// answered is what a command tells of texts.
func answered(word string, x []string) string {
	yes := map[bool]string{true: "yes", false: "no"}
	switch word {
	case "show":
		return quote.Double(x[0])
	case "check":
		from, to, f := run.Check(x[0])
		return ended(from+" -> "+to, f)
	case "same":
		return yes[iso.Same(only(x[0]), only(x[1]))]
	case "alike":
		return yes[unfold.Alike(only(x[0]), only(x[1]))]
	case "diff":
		a, b := only(x[0]), only(x[1])
		if l := audit.Diff(a, b); len(l) > 0 {
			return strings.Join(l, "\n")
		}
		return "none"
	case "size":
		g := only(x[0])
		if n, ok := unfold.Size(g); ok {
			return strconv.Itoa(len(g.Nodes)) + " " + strconv.Itoa(n)
		}
		return strconv.Itoa(len(g.Nodes)) + " -"
	}
	r, f := audit.Laws(x[0], x[1], x[2])
	return ended(strings.Join(r.Lines(), "\n"), f)
}

// scripts makes scripts as they fall, of names that stand for lenses, views and sources, and of some others.
type scripts struct{ strew.Maker }

// text is a short text: a lens, a view, a source, a graph, or one that is garbled.
func (m scripts) text(x [3]string) string {
	pick := sketch.Pick(m.Below)
	s := []string{x[0], x[1], x[2], scribe.Pen{Pick: m.Below}.Graph(pick.Graph(1 + pick(6))), "", "- &x a\n- *x\n---\nb"}[m.Below(6)]
	if m.Below(4) == 0 {
		s = m.Garbled(s)
	}
	if len(s) > 1024 {
		return "- too long\n"
	}
	return s
}

// command is a command, of names such that it may go well, more often than not.
func (m scripts) command(x [3]string) shell.Command {
	w := words()[m.Below(len(counts))]
	c := shell.Command{Word: w}
	for range counts[w] {
		c.Names = append(c.Names, []string{"l", "v", "s", "a", "b", "c", "d"}[m.Below(7)])
	}
	proper := map[string]string{"let": "a", "check": "l", "get": "a l s", "put": "b l v s", "create": "c l v", "audit": "l s v"}
	if p, ok := proper[w]; ok && m.Below(4) > 0 {
		c.Names = strings.Fields(p)
	}
	if w == "let" {
		c.Text = m.text(x)
	}
	return c
}

// script is a row of commands.
func (m scripts) script() []shell.Command {
	l, v, s := m.Texts()
	x := [3]string{l, v, s}
	var out []shell.Command
	for i, name := range []string{"l", "v", "s"} {
		if len(x[i]) <= 1024 && m.Below(12) > 0 {
			out = append(out, let(name, x[i]))
		}
	}
	for range 5 + m.Below(15) {
		out = append(out, m.command(x))
	}
	return out
}

// first are the first two words of what is said, or the first one, if that is enough.
func first(said string) string {
	l := strings.Fields(said + " . .")
	if l[0] == "error" {
		return strings.Join(l[:3], " ")
	}
	return l[0]
}

// P28.2, P28.3: scripts as they fall, command by command, and all together.
func TestScripts(t *testing.T) {
	m, met := scripts{falling(282)}, make(map[string]int)
	for range 40 {
		m.Define(3)
		for range 15 {
			s, other := shell.New(), make(slow)
			var lines, all strings.Builder
			script := m.script()
			utf8s := true
			for _, c := range script {
				got, want := strings.Join(s.Do(c), "\n"), other.do(c)
				if got != want {
					t.Fatalf("%q: %q behind\n%s\nsays %q, not %q", c.Word, c.Names, lines.String(), got, want)
				}
				for _, name := range append(c.Names, "x") {
					text, ok := s.Text(name)
					if w, has := other[name]; text != w || ok != has {
						t.Fatalf("%q: %q behind\n%s\n%s is %q, not %q", c.Word, c.Names, lines.String(), name, text, w)
					}
				}
				met[c.Word+" "+first(got)]++
				utf8s = utf8s && utf8.ValidString(c.Text)
				lines.WriteString(c.String() + "\n")
				all.WriteString(got + "\n")
			}
			if got := shell.Run(lines.String()); utf8s && got != all.String() {
				t.Fatalf("%s\nsays\n%s\nnot\n%s", lines.String(), got, all.String())
			}
		}
	}
	least := map[string]int{"let ok": 500, "get ok": 100, "put ok": 100, "create ok": 100, "canon ok": 50, "fold ok": 30, "tree ok": 30, "tree error result cycle": 1,
		"same yes": 10, "same no": 10, "alike yes": 10, "alike no": 10, "diff none": 5, "diff unknown": 10, "size unknown": 10, "audit source": 100, "get error source type": 1,
		"put error view type": 1, "get error lens form": 1, "canon error text syntax": 1}
	for what, n := range least {
		if met[what] < n {
			t.Errorf("%s: %d", what, met[what])
		}
	}
}

// W6, P28.2: scripts that are garbled: what is parsed is done, or the error of the script is all that is said.
func TestGarbled(t *testing.T) {
	m, met := scripts{falling(283)}, make(map[string]int)
	for range 20 {
		m.Define(3)
		for range 15 {
			var b strings.Builder
			for _, c := range m.script() {
				b.WriteString(strings.Repeat(" ", m.Below(2)) + c.String() + "\n")
			}
			script := m.Garbled(m.Garbled(b.String()))
			got := shell.Run(script)
			l, line, e := shell.Parse(script)
			want := "error script " + e.Word() + " " + strconv.Itoa(line) + "\n"
			if e == api.OK {
				want = ""
				s := make(slow)
				for _, c := range l {
					want += s.do(c) + "\n"
				}
			}
			if got != want {
				t.Fatalf("%s\nsays\n%s\nnot\n%s", script, got, want)
			}
			met[e.Word()]++
		}
	}
	if met["ok"] < 50 || met["form"] < 20 || met["name"] < 5 {
		t.Error(met)
	}
}

// R3: commands and what they say may be written into; a shell keeps neither.
func TestMemory(t *testing.T) {
	s := shell.New()
	c := let("a", "[x, y]")
	s.Do(c)
	c.Names[0] = "b"
	if _, ok := s.Text("b"); ok {
		t.Error("kept")
	}
	s.Do(let("b", "[y, x, z]"))
	for _, line := range []string{"show a", "diff a b", "size a", "canon a a", "show b"} {
		c := one(t, line)
		want := s.Do(c)
		if len(want) == 0 {
			t.Fatal(line)
		}
		for range 3 {
			l := s.Do(c)
			if !slices.Equal(l, want) || !slices.Equal(c.Names, one(t, line).Names) {
				t.Errorf("%s: %q, not %q", line, l, want)
			}
			clear(l[:cap(l)])
		}
	}
}
