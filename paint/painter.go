package paint

import "teasel/api"

// colourless is what a node has that has no colour.
const colourless = -1

// painter gives nodes colours, one by one.
type painter struct {
	near    [][]int  // of each node its neighbours
	likes   [][]int  // of each node those that would like to have its colour
	k       int      // how many colours there are
	colours []int    // of each node its colour, or none
	wishes  []int    // of each node the colour of the first one that it likes, or none
	taken   []uint32 // of each node, a bit each, the colours that its neighbours have
}

func newPainter(near, likes [][]int, k int) *painter {
	n := len(near)
	p := &painter{near: near, likes: likes, k: k, colours: make([]int, n), wishes: make([]int, n), taken: make([]uint32, n)}
	for node := range n {
		p.colours[node], p.wishes[node] = colourless, colourless
	}
	return p
}

// paint gives a node a colour, if one is free.
func (p *painter) paint(node int) {
	colour := p.best(node)
	if colour == colourless {
		return
	}
	p.colours[node] = colour
	for _, other := range p.near[node] {
		p.taken[other] |= 1 << colour
	}
	for _, other := range p.likes[node] {
		if p.wishes[other] == colourless {
			p.wishes[other] = colour
		}
	}
}

// best answers, of the colours that are free for a node, the one that suits best: the least of these, so that where all suit, and are free, all nodes take the same.
func (p *painter) best(node int) int {
	suits := p.suits(node)
	best := colourless
	for colour := range p.k {
		if p.mayHave(node, colour) && (best == colourless || suits[colour] > suits[best]) {
			best = colour
		}
	}
	return best
}

// suits answers how well each colour suits a node: well, if those that like it have it; less, if they may have it still; badly, if neighbours wish for it.
func (p *painter) suits(node int) [api.Regs]int {
	const well, less, badly = 4, 2, -1
	var suits [api.Regs]int
	for _, other := range p.likes[node] {
		for colour := range p.k {
			switch {
			case p.colours[other] == colour:
				suits[colour] += well
			case p.colours[other] == colourless && p.mayHave(other, colour):
				suits[colour] += less
			}
		}
	}
	for _, other := range p.near[node] {
		if wish := p.wishes[other]; wish != colourless && p.colours[other] == colourless {
			suits[wish] += badly
		}
	}
	return suits
}

// mayHave tells whether no neighbour of a node has a colour.
func (p *painter) mayHave(node, colour int) bool {
	return p.taken[node]&(1<<colour) == 0
}
