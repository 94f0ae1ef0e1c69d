package shell

import (
	"errors"
	"strconv"

	"stanhope/api"
	"stanhope/audit"
	"stanhope/emit"
	"stanhope/graph"
	"stanhope/iso"
	"stanhope/load"
	"stanhope/quote"
	"stanhope/run"
	"stanhope/unfold"
)

// errMute is of what says nothing: a command that is none, and a shell that is nil.
var errMute = errors.New("nothing to say")

// unknown is a name that stands for no text.
type unknown string

// Error is what is said of a name.
func (u unknown) Error() string { return "unknown " + string(u) }

// told is what is said of an error. A fault without a part is one of a document.
func told(err error) []string {
	var name unknown
	var part run.Fault
	var f api.Fault
	switch {
	case errors.Is(err, errMute):
		return nil
	case errors.As(err, &name):
		return []string{name.Error()}
	case !errors.As(err, &part) && errors.As(err, &f):
		part.Fault = f
	}
	return []string{"error " + where(part.Part) + " " + part.Word() + " " + strconv.Itoa(part.At)}
}

// where is the word of a part.
func where(p run.Part) string {
	switch p {
	case run.Lens:
		return "lens"
	case run.Source:
		return "source"
	case run.View:
		return "view"
	case run.Result:
		return "result"
	}
	return "text"
}

// wrong is a fault as an error; nil, if nothing is wrong.
func wrong[F interface {
	error
	Bad() bool
}](f F) error {
	if f.Bad() {
		return f
	}
	return nil
}

// ran is what a call of layer 26 answers.
func ran(s string, f run.Fault) (string, error) { return s, wrong(f) }

// written is what a call of layer 14 answers.
func written(s string, f api.Fault) (string, error) { return ran(s, result(f)) }

// result is a fault of what is made.
func result(f api.Fault) run.Fault { return run.Fault{Part: run.Result, Fault: f} }

// makes is the text that a command makes of others, to be kept.
func (c Command) makes(l []string) (string, error) {
	switch c.Word {
	case "get":
		return ran(run.Get(l[0], l[1]))
	case "put":
		return ran(run.Put(l[0], l[1], l[2]))
	case "create":
		return ran(run.Create(l[0], l[1]))
	case "canon":
		return canon(l[0])
	case "fold", "tree":
		g, err := documents(l)
		if err != nil {
			return "", err
		}
		return unfolded(g[0], c.Word == "tree")
	}
	return c.Text, nil
}

// canon is the text of a text's documents.
func canon(s string) (string, error) {
	docs, f := load.Docs(s)
	if f.Bad() {
		return "", f
	}
	var l []graph.Graph
	for _, d := range docs {
		l = append(l, d.Graph)
	}
	return written(emit.Docs(l...))
}

// unfolded is the text of a graph's unfolding, or else of the folded graph.
func unfolded(g graph.Graph, tree bool) (string, error) {
	if !tree {
		return written(emit.Graph(unfold.Fold(g)))
	}
	t, f := unfold.Tree(g)
	if f.Bad() {
		return "", result(f)
	}
	return written(emit.Graph(t))
}

// documents are the graphs of texts of one document each.
func documents(l []string) ([]graph.Graph, error) {
	var g []graph.Graph
	for _, s := range l {
		d, f := load.One(s)
		if f.Bad() {
			return nil, f
		}
		g = append(g, d.Graph)
	}
	return g, nil
}

// say is what a command tells of texts, of which it keeps none.
func say(word string, l []string) ([]string, error) {
	switch word {
	case "show":
		return []string{quote.Double(l[0])}, nil
	case "check":
		from, to, f := run.Check(l[0])
		return []string{from + " -> " + to}, wrong(f)
	case "audit":
		r, f := audit.Laws(l[0], l[1], l[2])
		return r.Lines(), wrong(f)
	}
	g, err := documents(l)
	if err != nil {
		return nil, err
	}
	return tell(word, g), nil
}

// tell is what a command tells of graphs.
func tell(word string, g []graph.Graph) []string {
	switch word {
	case "same":
		return []string{answer(iso.Same(g[0], g[1]))}
	case "alike":
		return []string{answer(unfold.Alike(g[0], g[1]))}
	case "diff":
		if l := audit.Diff(g[0], g[1]); len(l) > 0 {
			return l
		}
		return []string{"none"}
	}
	return []string{strconv.Itoa(len(g[0].Nodes)) + " " + size(g[0])}
}

// answer is yes or no.
func answer(yes bool) string {
	if yes {
		return "yes"
	}
	return "no"
}

// size is how many nodes the unfolding of a graph has, if it is told.
func size(g graph.Graph) string {
	if n, ok := unfold.Size(g); ok {
		return strconv.Itoa(n)
	}
	return "-"
}
