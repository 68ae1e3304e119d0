package flow

import "slices"

// walk has gone through a graph from node 0, never twice to a node: in which order it came to the nodes, in which it left them, and of each one that it reached from which one it came there; of node 0: from -1.
type walk struct {
	entered []int
	left    []int
	from    []int
	reached []bool
}

func newWalk(g [][]int) *walk {
	w := &walk{from: make([]int, len(g)), reached: make([]bool, len(g))}
	if len(g) == 0 {
		return w
	}
	next := make([]int, len(g)) // of each node how many of its ways were gone
	w.enter(0, -1)
	for at := 0; at >= 0; {
		if next[at] == len(g[at]) {
			w.left = append(w.left, at)
			at = w.from[at]
			continue
		}
		to := g[at][next[at]]
		next[at]++
		if !w.reached[to] {
			w.enter(to, at)
			at = to
		}
	}
	return w
}

func (w *walk) enter(node, from int) {
	w.reached[node], w.from[node] = true, from
	w.entered = append(w.entered, node)
}

// order answers the nodes, that which was left last first.
func (w *walk) order() []int {
	l := slices.Clone(w.left)
	slices.Reverse(l)
	return l
}

// into answers of each node those that go on to it. As they are gone through rising, one that stands there already stands there last.
func into(g [][]int) [][]int {
	l := make([][]int, len(g))
	for node := range len(g) {
		for _, to := range g[node] {
			if n := len(l[to]); n == 0 || l[to][n-1] != node {
				l[to] = append(l[to], node)
			}
		}
	}
	return l
}
