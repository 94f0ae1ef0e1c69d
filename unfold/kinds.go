package unfold

import (
	"maps"
	"slices"
	"strconv"

	"stanhope/graph"
	"stanhope/iso"
)

// kinds are the kinds of nodes, as far as they are told apart: those of one kind look alike,
// and more and more, round by round, so does what their edges lead to.
type kinds struct {
	of   []int      // the number of each node's kind
	size []int      // how many nodes each kind has
	into [][][2]int // of each node the edges that lead to it: which node they are of, and at which place there
}

// tell tells the kinds of a trimmed graph's nodes, whose Kids stand in the order of their edges.
func tell(nodes []graph.Node) kinds {
	k := kinds{of: make([]int, len(nodes)), into: make([][][2]int, len(nodes))}
	looks := make(map[string]int)
	moved := make([]int, len(nodes))
	for i, n := range nodes {
		k.of[i] = number(looks, look(n))
		moved[i] = i
		for place, kid := range n.Kids {
			k.into[kid] = append(k.into[kid], [2]int{i, place})
		}
	}
	k.size = make([]int, len(looks))
	for _, kind := range k.of {
		k.size[kind]++
	}
	for len(moved) > 0 {
		moved = k.round(moved)
	}
	return k
}

// number is how many others were met ahead of something, which is met with this.
func number[T comparable](met map[T]int, x T) int {
	n, ok := met[x]
	if !ok {
		n = len(met)
		met[x] = n
	}
	return n
}

// look is a text for nodes that look alike: the code of the node alone, whose edges all lead to itself.
func look(n graph.Node) string {
	n.Kids = make([]int, len(n.Kids))
	return iso.Code(graph.Graph{Nodes: []graph.Node{n}})
}

// round tells nodes of one kind apart, if their edges at one place lead to nodes of two kinds.
// It looks only at edges to nodes that moved, those whose kind got another number in the round
// ahead, as all others were held against each other there; and it answers what moves in this one.
func (k *kinds) round(moved []int) []int {
	news := k.news(moved)
	many := make([]int, len(k.size)) // of each kind how many nodes anything is new of
	for n, text := range news {
		if text > 0 {
			many[k.of[n]]++
		}
	}
	var parts [][]int
	met := make(map[[2]int]int) // parts, by the kind that they are of, and what is new of their nodes
	for n, kind := range k.of {
		// If nothing is new of half a kind or more, that half stays as it is.
		if news[n] == 0 && 2*many[kind] <= k.size[kind] {
			continue
		}
		i := number(met, [2]int{kind, news[n]})
		if i == len(parts) {
			parts = append(parts, nil)
		}
		parts[i] = append(parts[i], n)
	}
	return k.move(parts)
}

// news are the numbers of texts that tell of each node which edges lead to nodes that moved, and to
// which kinds; 0, if none does.
func (k *kinds) news(moved []int) []int {
	led := make(map[int][][2]int)
	for _, n := range moved {
		for _, e := range k.into[n] {
			led[e[0]] = append(led[e[0]], [2]int{e[1], k.of[n]})
		}
	}
	texts := make(map[string]int)
	news := make([]int, len(k.of))
	for _, n := range slices.Sorted(maps.Keys(led)) {
		news[n] = 1 + number(texts, row(led[n]))
	}
	return news
}

// row is a text for lists of places and kinds that are the same, in whatever order they stand.
func row(l [][2]int) string {
	slices.SortFunc(l, func(a, b [2]int) int { return a[0] - b[0] })
	var s []byte
	for _, e := range l {
		s = append(strconv.AppendInt(s, int64(e[0]), 10), ' ')
		s = append(strconv.AppendInt(s, int64(e[1]), 10), ' ')
	}
	return string(s)
}

// move makes parts kinds of their own, and answers their nodes. What is left of a kind at last stays;
// as this is the greatest part, no node moves more often than its kind can be halved.
func (k *kinds) move(parts [][]int) []int {
	slices.SortFunc(parts, func(a, b []int) int { return len(a) - len(b) })
	var moved []int
	for _, p := range parts {
		kind := k.of[p[0]]
		if len(p) == k.size[kind] {
			continue
		}
		for _, n := range p {
			k.of[n] = len(k.size)
		}
		k.size[kind] -= len(p)
		k.size = append(k.size, len(p))
		moved = append(moved, p...)
	}
	return moved
}
