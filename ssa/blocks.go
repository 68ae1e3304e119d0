package ssa

import (
	"teasel/api"
	"teasel/code"
	"teasel/flow"
)

// blocks is a function, and how its blocks hang together: of each one where it goes on, which ones go on to it, of which it is the nearest above, and how many stand above it.
type blocks struct {
	api.Fun
	on    [][]int
	into  [][]int
	below [][]int
	depth []int
}

func newBlocks(f api.Fun) *blocks {
	g := code.Graph(f)
	order, _ := flow.Order(g)
	above, _ := flow.Above(g)
	into, _ := flow.Into(g)
	b := &blocks{Fun: f, on: g, into: into, below: make([][]int, len(g)), depth: make([]int, len(g))}
	for _, i := range order {
		if up := above[i]; up >= 0 {
			b.below[up] = append(b.below[up], i)
			b.depth[i] = b.depth[up] + 1
		}
	}
	return b
}
