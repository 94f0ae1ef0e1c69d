package fault_test

import (
	"errors"
	"slices"
	"testing"

	"stanhope/api"
	"stanhope/fault"
)

// wrap is an error that is no step, with one within.
type wrap struct{ within error }

func (w wrap) Error() string { return "wrap" }
func (w wrap) Unwrap() error { return w.within }

// list is an error that can't be compared.
type list []int

func (l list) Error() string { return "list" }

var alien = errors.New("alien")

// under is a way of steps: the words' bytes, the places 10, 20 .. from the outermost on.
func under(words string, err error) error {
	for i := len(words); i > 0; i-- {
		err = fault.Under(words[i-1:i], 10*i, err)
	}
	return err
}

// P1.1
func TestUnder(t *testing.T) {
	if err := fault.Under("a", 1, nil); err != nil {
		t.Errorf("under of nil: %v", err)
	}
	for _, within := range []error{alien, api.ErrType, api.OK, api.Fault{}, fault.Step{}, wrap{}} {
		err := fault.Under("a b", -7, within)
		s, ok := err.(fault.Step)
		if !ok || s.Word != "a b" || s.At != -7 || s.Err != within {
			t.Errorf("under of %#v: %#v", within, err)
		}
		if err.Error() != "a b" {
			t.Errorf("error: %q", err.Error())
		}
		if errors.Unwrap(err) != within {
			t.Errorf("unwrap: %#v", errors.Unwrap(err))
		}
	}
	if s := (fault.Step{}); s.Error() != "" || s.Unwrap() != nil {
		t.Errorf("zero step: %q, %v", s.Error(), s.Unwrap())
	}
	if err := fault.Under("", 0, list{1}); err == nil || fault.Depth(err) != 1 {
		t.Errorf("under of a list: %#v", err)
	}
}

// P1.1
func TestWordsAndDepth(t *testing.T) {
	cases := []struct {
		name string
		err  error
		want []string
	}{
		{"nil", nil, nil},
		{"no step", alien, nil},
		{"number", api.ErrType, nil},
		{"fault", api.Fault{Errno: api.ErrType, At: 7}, nil},
		{"list", list{1}, nil},
		{"one", under("a", alien), []string{"a"}},
		{"an empty word", fault.Under("", 0, api.ErrDeep), []string{""}},
		{"two", under("ab", api.Fault{Errno: api.ErrType, At: 7}), []string{"a", "b"}},
		{"alike", under("aba", api.ErrType), []string{"a", "b", "a"}},
		{"nothing at the end", fault.Step{Word: "a", Err: fault.Step{Word: "b"}}, []string{"a", "b"}},
		{"behind another error", under("ab", wrap{under("c", alien)}), []string{"a", "b"}},
		{"only behind another error", wrap{under("c", alien)}, nil},
		{"joined", under("a", errors.Join(under("b", alien))), []string{"a"}},
	}
	for _, c := range cases {
		if got := fault.Words(c.err); !slices.Equal(got, c.want) {
			t.Errorf("%s: words %q, not %q", c.name, got, c.want)
		}
		if got := fault.Depth(c.err); got != len(c.want) {
			t.Errorf("%s: depth %d, not %d", c.name, got, len(c.want))
		}
	}
}

// P1.1: a long way ends, and its words are in their order.
func TestLongWay(t *testing.T) {
	const n = 100000
	var err error = api.ErrLoop
	for i := range n {
		err = fault.Under(string(rune('a'+i%26)), i, err)
	}
	words := fault.Words(err)
	if len(words) != n || fault.Depth(err) != n || words[0] != string(rune('a'+(n-1)%26)) || words[n-1] != "a" {
		t.Fatalf("%d words, depth %d", len(words), fault.Depth(err))
	}
	if f := fault.Of(err); f != (api.Fault{Errno: api.ErrLoop, At: 0}) {
		t.Fatal(f)
	}
}

// P1.2
func TestOf(t *testing.T) {
	at7 := api.Fault{Errno: api.ErrType, At: 7}
	cases := []struct {
		name string
		err  error
		want api.Fault
	}{
		{"nil", nil, api.Fault{}},
		{"fault", at7, at7},
		{"fault under steps", under("ab", at7), at7},
		{"fault behind another error", under("a", wrap{at7}), at7},
		{"fault at 0", under("ab", api.Fault{Errno: api.ErrByte}), api.Fault{Errno: api.ErrByte}},
		{"fault that is none", under("ab", api.Fault{At: 5}), api.Fault{At: 5}},
		{"first of two faults", under("a", errors.Join(at7, api.Fault{Errno: api.ErrName, At: 9})), at7},
		{"fault behind a number", under("a", errors.Join(api.ErrName, at7)), at7},
		{"number", api.ErrName, api.Fault{Errno: api.ErrName}},
		{"number under a step", under("a", api.ErrName), api.Fault{Errno: api.ErrName, At: 10}},
		{"number under steps", under("abc", api.ErrName), api.Fault{Errno: api.ErrName, At: 30}},
		{"number behind another error", under("ab", wrap{api.ErrName}), api.Fault{Errno: api.ErrName, At: 20}},
		{"number without a step behind another error", wrap{api.ErrName}, api.Fault{Errno: api.ErrName}},
		{"first of two numbers", errors.Join(api.ErrLens, api.ErrName), api.Fault{Errno: api.ErrLens}},
		{"number OK", under("a", api.OK), api.Fault{At: 10}},
		{"number without a word", under("a", api.Errno(-3)), api.Fault{Errno: -3, At: 10}},
		{"other", alien, api.Fault{Errno: api.ErrOther}},
		{"other under steps", under("ab", alien), api.Fault{Errno: api.ErrOther, At: 20}},
		{"list under a step", under("a", list{1}), api.Fault{Errno: api.ErrOther, At: 10}},
		{"step with nothing", fault.Step{Word: "a", At: 3}, api.Fault{Errno: api.ErrOther, At: 3}},
		{"step behind another error", under("a", wrap{under("bc", api.ErrName)}), api.Fault{Errno: api.ErrName, At: 10}},
		{"negative place", fault.Under("a", -1, api.ErrName), api.Fault{Errno: api.ErrName, At: -1}},
	}
	for _, c := range cases {
		if got := fault.Of(c.err); got != c.want {
			t.Errorf("%s: %#v, not %#v", c.name, got, c.want)
		}
	}
}

// P1.2
func TestIs(t *testing.T) {
	cases := []struct {
		name string
		err  error
		n    api.Errno
		want bool
	}{
		{"nil", nil, api.OK, false},
		{"nil", nil, api.ErrOther, false},
		{"number", api.ErrType, api.ErrType, true},
		{"another number", api.ErrType, api.ErrName, false},
		{"number OK", api.OK, api.OK, true},
		{"number under steps", under("ab", api.ErrType), api.ErrType, true},
		{"another number under steps", under("ab", api.ErrType), api.OK, false},
		{"fault", api.Fault{Errno: api.ErrType, At: 7}, api.ErrType, true},
		{"another fault", api.Fault{Errno: api.ErrType, At: 7}, api.ErrName, false},
		{"fault under steps", under("ab", api.Fault{Errno: api.ErrType, At: 7}), api.ErrType, true},
		{"zero fault", api.Fault{}, api.OK, true},
		{"number behind another error", wrap{under("a", wrap{api.ErrDeep})}, api.ErrDeep, true},
		{"second of two numbers", errors.Join(api.ErrLens, api.ErrName), api.ErrName, true},
		{"other", alien, api.ErrOther, false},
		{"other under a step", under("a", alien), api.ErrOther, false},
		{"list", under("a", list{1}), api.ErrOther, false},
		{"step with nothing", fault.Step{Word: "a"}, api.OK, false},
		{"number without a word", under("a", api.Errno(99)), 99, true},
	}
	for _, c := range cases {
		if got := fault.Is(c.err, c.n); got != c.want {
			t.Errorf("%s: is %d: %v, not %v", c.name, c.n, got, c.want)
		}
	}
}

// The chapter's example 1.
func TestExample(t *testing.T) {
	err := fault.Under("a", 1, fault.Under("b", 2, api.Fault{Errno: api.ErrType, At: 7}))
	if w := fault.Words(err); !slices.Equal(w, []string{"a", "b"}) {
		t.Error(w)
	}
	if f := fault.Of(err); f != (api.Fault{Errno: api.ErrType, At: 7}) {
		t.Error(f)
	}
}

// R3: what is handed out is new memory.
func TestWordsAreNew(t *testing.T) {
	err := under("ab", api.ErrType)
	fault.Words(err)[0] = "x"
	if w := fault.Words(err); w[0] != "a" {
		t.Error(w)
	}
}
