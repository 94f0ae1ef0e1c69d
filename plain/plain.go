// Package plain tells what stands in the nodes of documents in which types and lenses are
// written: plain mappings and sequences, which are those of the tags map and seq.
package plain

import (
	"slices"
	"strings"

	"stanhope/graph"
	"stanhope/load"
	"stanhope/resolve"
)

// Node is a document's node, and whether there is one of that number.
func Node(d load.Doc, n int) (graph.Node, bool) {
	if n < 0 || n >= len(d.Nodes) {
		return graph.Node{}, false
	}
	return d.Nodes[n], true
}

// At is where a document's node stands; 0, if there is none, or it isn't told.
func At(d load.Doc, n int) int {
	if _, ok := Node(d, n); !ok || n >= len(d.At) {
		return 0
	}
	return d.At[n]
}

// Seq are the nodes that stand in a plain sequence, and whether it is one.
func Seq(d load.Doc, n int) ([]int, bool) {
	x, ok := Node(d, n)
	if !ok || x.Kind != graph.Seq || x.Tag != resolve.Seq {
		return nil, false
	}
	return x.Kids, true
}

// Entries are the keys of a mapping, rising, and the node behind each.
type Entries struct {
	Keys []string
	Kids []int
}

// Map are the entries of a plain mapping, and whether it is one.
func Map(d load.Doc, n int) (Entries, bool) {
	x, ok := Node(d, n)
	if !ok || x.Kind != graph.Map || x.Tag != resolve.Map || len(x.Keys) != len(x.Kids) {
		return Entries{}, false
	}
	order := make([]int, len(x.Keys))
	for i := range order {
		order[i] = i
	}
	slices.SortFunc(order, func(i, j int) int { return strings.Compare(x.Keys[i], x.Keys[j]) })
	var e Entries
	for _, i := range order {
		e.Keys, e.Kids = append(e.Keys, x.Keys[i]), append(e.Kids, x.Kids[i])
	}
	return e, true
}

// Behind is the node behind a key; -1, if there is no such key.
func (e Entries) Behind(key string) int {
	i, ok := slices.BinarySearch(e.Keys, key)
	if !ok {
		return -1
	}
	return e.Kids[i]
}

// Are says whether the keys are all that must be, and else none but such as may be.
func (e Entries) Are(must []string, may ...string) bool {
	for _, key := range e.Keys {
		if !slices.Contains(must, key) && !slices.Contains(may, key) {
			return false
		}
	}
	for _, key := range must {
		if _, ok := slices.BinarySearch(e.Keys, key); !ok {
			return false
		}
	}
	return true
}
