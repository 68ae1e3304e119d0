package loops

import (
	"slices"

	"teasel/forest"
)

// nest finds which loops stand in which, the innermost ones first. What it knows of a loop already, it takes for one block, so that no block is gone through again for each loop around it.
type nest struct {
	from   [][]int
	around []int
	outer  []int // of each block itself, or a head from which the outermost loop is found that is known around it
}

// around answers of each block the head of the innermost loop around it, of a head that of the next one around its own; or -1.
func around(order []int, dominators forest.Forest, from [][]int) []int {
	n := nest{from: from}
	for block := range from {
		n.around = append(n.around, -1)
		n.outer = append(n.outer, block)
	}
	for _, head := range slices.Backward(order) {
		var ends []int
		for _, block := range from[head] {
			if dominators.Over(head, block) {
				ends = append(ends, block)
			}
		}
		n.loop(head, ends)
	}
	return n.around
}

// loop finds the blocks of a loop by its head and the blocks of it that go on to that.
func (n nest) loop(head int, ends []int) {
	for len(ends) > 0 {
		block := n.known(ends[len(ends)-1])
		ends = ends[:len(ends)-1]
		if block != head {
			n.around[block], n.outer[block] = head, head
			ends = append(ends, n.from[block]...)
		}
	}
}

// known answers the head of the outermost loop that is known around a block; itself, if none is.
func (n nest) known(block int) int {
	for n.outer[block] != block {
		n.outer[block] = n.outer[n.outer[block]]
		block = n.outer[block]
	}
	return block
}

// far answers of each block a head around it by which one comes out of many loops soon: the next one, or, where two equal leaps lead out from that, the one behind both; of a block in no loop itself.
func far(order, around []int) []int {
	l, depth := make([]int, len(around)), make([]int, len(around))
	for _, block := range order {
		next := around[block]
		if next == -1 {
			l[block] = block
			continue
		}
		depth[block] = depth[next] + 1
		l[block] = next
		if k := l[next]; depth[next]-depth[k] == depth[k]-depth[l[k]] {
			l[block] = l[k]
		}
	}
	return l
}
