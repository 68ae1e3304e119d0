package flow

// climb finds the nearest nodes above, of nodes that are told by their numbers: when a walk came to them. The half way of a node is the least number from which a way leads to it that goes through greater numbers than its own alone; the nearest node above stands at that, or above. (Going round until nothing changes would be simpler, but takes too long where many ways lead into loops.)
type climb struct {
	from  []int // from which number the walk came
	up    []int // the same, or one that is farther up
	half  []int
	least []int // which one has the least half way, of the numbers from this one up to that ahead of up
	path  []int
}

func newClimb(w *walk, numbers []int) *climb {
	n := len(w.entered)
	c := &climb{from: make([]int, n), up: make([]int, n), half: make([]int, n), least: make([]int, n)}
	for i := range n {
		c.half[i], c.least[i] = i, i
		if i > 0 {
			c.from[i] = numbers[w.from[w.entered[i]]]
		}
		c.up[i] = c.from[i]
	}
	return c
}

// lowest answers, of n and the numbers up from it that aren't below first, the one with the least half way; and shortens the way there.
func (c *climb) lowest(n, first int) int {
	c.path = c.path[:0]
	for c.up[n] >= first {
		c.path = append(c.path, n)
		n = c.up[n]
	}
	for i := len(c.path) - 1; i >= 0; i-- {
		below := c.path[i]
		if c.half[c.least[n]] < c.half[c.least[below]] {
			c.least[below] = c.least[n]
		}
		c.up[below] = c.up[n]
		n = below
	}
	return c.least[n]
}

// nearest answers of each number the nearest one above it. Ways up skip far ahead, so that each takes few steps only.
func (c *climb) nearest() []int {
	count := len(c.from)
	near, far, depth := make([]int, count), make([]int, count), make([]int, count)
	meet := func(n, half int) int {
		for n > half {
			if far[n] > half {
				n = far[n]
			} else {
				n = near[n]
			}
		}
		return n
	}
	for n := 1; n < count; n++ {
		p := meet(c.from[n], c.half[n])
		near[n], far[n], depth[n] = p, p, depth[p]+1
		if q := far[p]; depth[p]-depth[q] == depth[q]-depth[far[q]] {
			far[n] = far[q]
		}
	}
	return near
}

// above answers of each node the nearest one above it, or -1; from: those that go on to it.
func above(w *walk, from [][]int) []int {
	l, numbers := make([]int, len(from)), make([]int, len(from))
	for node := range len(from) {
		l[node] = -1
	}
	for i, node := range w.entered {
		numbers[node] = i
	}
	c := newClimb(w, numbers)
	for n := len(w.entered) - 1; n > 0; n-- {
		half := c.from[n]
		for _, node := range from[w.entered[n]] {
			if w.reached[node] {
				half = min(half, c.half[c.lowest(numbers[node], n+1)])
			}
		}
		c.half[n] = half
	}
	for n, p := range c.nearest() {
		if n > 0 {
			l[w.entered[n]] = w.entered[p]
		}
	}
	return l
}
