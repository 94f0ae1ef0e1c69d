// Package fault is layer 1: see shared/doc/01-fault.md.
package fault

import (
	"errors"

	"stanhope/api"
)

// Step is a word and a place, with an error within.
type Step struct {
	Word string
	At   int
	Err  error
}

// Error is a step's word.
func (s Step) Error() string { return s.Word }

// Unwrap is what a step has within.
func (s Step) Unwrap() error { return s.Err }

// Under is an error under a step; nil of nil.
func Under(word string, at int, err error) error {
	if err == nil {
		return nil
	}
	return Step{Word: word, At: at, Err: err}
}

// Words are the words of the steps, the outermost first.
func Words(err error) []string {
	var words []string
	for _, s := range steps(err) {
		words = append(words, s.Word)
	}
	return words
}

// Depth is how many steps there are.
func Depth(err error) int { return len(steps(err)) }

// Of is the fault that an error is, or has within; else its number, or ErrOther, at the innermost step's place.
func Of(err error) api.Fault {
	if err == nil {
		return api.Fault{}
	}
	var f api.Fault
	if errors.As(err, &f) {
		return f
	}
	n := api.ErrOther
	var within api.Errno
	if errors.As(err, &within) {
		n = within
	}
	return api.Fault{Errno: n, At: innermost(err)}
}

// Is says whether an error is a number, or has it within.
func Is(err error, n api.Errno) bool { return errors.Is(err, n) }

// steps are the steps with which an error begins, the outermost first.
// One behind an error that is no step is of another way, and isn't among them.
func steps(err error) []Step {
	var l []Step
	for {
		switch s := err.(type) {
		case Step:
			l = append(l, s)
			err = s.Err
		default:
			return l
		}
	}
}

// innermost is the innermost step's place; 0, if there is no step.
func innermost(err error) int {
	l := steps(err)
	if len(l) == 0 {
		return 0
	}
	return l[len(l)-1].At
}
