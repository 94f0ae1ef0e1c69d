// Package short makes the short texts of which the layers' tests ask everything.
package short

import "iter"

// Texts are all rows of at most n of the parts.
func Texts(n int, parts ...string) iter.Seq[string] {
	return func(yield func(string) bool) { more("", n, parts, yield) }
}

// more hands on a text, and all that go on from it by at most n parts; it says whether to go on.
func more(s string, n int, parts []string, yield func(string) bool) bool {
	if !yield(s) {
		return false
	}
	if n <= 0 {
		return true
	}
	for _, p := range parts {
		if !more(s+p, n-1, parts, yield) {
			return false
		}
	}
	return true
}
