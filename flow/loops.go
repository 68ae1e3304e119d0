package flow

import (
	"slices"

	"teasel/forest"
)

// borders goes up from all that goes on to a node until what dominates the node; up from what has it in its border already all have it.
func borders(w *walk, above []int, from [][]int) [][]int {
	l := make([][]int, len(from))
	for node := range len(from) {
		has := func(n int) bool { return len(l[n]) > 0 && l[n][len(l[n])-1] == node }
		for _, n := range from[node] {
			if !w.reached[n] {
				continue
			}
			for n >= 0 && n != above[node] && !has(n) {
				l[n] = append(l[n], node)
				n = above[n]
			}
		}
	}
	return l
}

func loops(dominators forest.Forest, from [][]int) []Loop {
	var l []Loop
	for head := range len(from) {
		var ends []int
		for _, n := range from[head] {
			if dominators.Over(head, n) {
				ends = append(ends, n)
			}
		}
		if len(ends) > 0 {
			l = append(l, Loop{Head: head, Nodes: back(head, ends, from)})
		}
	}
	return l
}

// back answers the head of a loop and all nodes from which a way leads to one of its ends, but not through its head.
func back(head int, ends []int, from [][]int) []int {
	nodes := map[int]struct{}{head: {}}
	for len(ends) > 0 {
		n := ends[len(ends)-1]
		ends = ends[:len(ends)-1]
		if _, has := nodes[n]; !has {
			nodes[n] = struct{}{}
			ends = append(ends, from[n]...)
		}
	}
	var l []int
	for n := range nodes {
		l = append(l, n)
	}
	slices.Sort(l)
	return l
}
