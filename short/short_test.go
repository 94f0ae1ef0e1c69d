package short_test

import (
	"slices"
	"testing"

	"stanhope/short"
)

func TestTexts(t *testing.T) {
	want := []string{"", "a", "aa", "abc", "bc", "bca", "bcbc"}
	if got := slices.Collect(short.Texts(2, "a", "bc")); !slices.Equal(got, want) {
		t.Errorf("%q, not %q", got, want)
	}
	for _, n := range []int{0, -1} {
		if got := slices.Collect(short.Texts(n, "a")); !slices.Equal(got, []string{""}) {
			t.Errorf("of %d: %q", n, got)
		}
	}
	for s := range short.Texts(3, "a", "b") {
		if s == "aa" {
			break
		}
		if s == "b" {
			t.Error("goes on behind a break")
		}
	}
}
