package live

import "slices"

// pairs are of each value the greater ones with which it clashes. None is told twice: a value that is live right behind where another one is made is made ahead of that on every way there, so that the other one isn't live right behind where it is made.
type pairs struct {
	greater [][]int
	count   int
}

func (l *pairs) add(v, w int) {
	v, w = min(v, w), max(v, w)
	l.greater[v] = append(l.greater[v], w)
	l.count++
}

// list answers the pairs in order.
func (l *pairs) list() [][2]int {
	out := make([][2]int, 0, l.count)
	for v, values := range l.greater {
		slices.Sort(values)
		for _, w := range values {
			out = append(out, [2]int{v, w})
		}
	}
	return out
}
