// Package forest tells at once which nodes stand over which, where going up from each to each would take long.
package forest

// Forest has of each node its place, in an order in which all that stands below a node stands right behind it, and how many nodes that is, itself too. A node that isn't in it has no place.
type Forest struct {
	place []int
	size  []int
}

// New makes a forest of the nodes in order, in which above has of each node the one above it, which stands ahead of it in order, or -1.
func New(order, above []int) Forest {
	f := Forest{place: make([]int, len(above)), size: make([]int, len(above))}
	for n := range f.place {
		f.place[n] = -1
	}
	for i := len(order) - 1; i >= 0; i-- {
		n := order[i]
		f.size[n]++
		if above[n] >= 0 {
			f.size[above[n]] += f.size[n]
		}
	}
	f.lay(order, above)
	return f
}

// lay gives each node the first place that is free below the one above it.
func (f Forest) lay(order, above []int) {
	free := make([]int, len(above))
	roots := 0
	for _, n := range order {
		room := &roots
		if above[n] >= 0 {
			room = &free[above[n]]
		}
		f.place[n] = *room
		free[n] = *room + 1
		*room += f.size[n]
	}
}

// Over tells whether a is met on the way up from b, at b too.
func (f Forest) Over(a, b int) bool {
	return f.place[a] <= f.place[b] && f.place[b] < f.place[a]+f.size[a]
}
