package ssa

// none is the number of no variable, and of no value.
const none = -1

// meeter finds, variable by variable, the blocks at which it needs a phi: in meets are of each block the variables that do.
type meeter struct {
	*blocks
	meets  [][]int
	room   int // how many more phis there may be
	states []state
	starts [][]int // of each depth the blocks from which what the variable was set to is still to be followed
}

// state is what was found of a block, told by the last variable of which it is so: nothing must be wiped off ahead of the next one.
type state struct {
	sets   int // it is set here
	needs  int // what it has where the block begins is asked for
	passed int // what it was set to was followed through here
	meets  int // it has a phi here
}

// meetings answers of each block the variables that need a phi there, rising; or false: they are more than there is room for.
func meetings(b *blocks, room int) ([][]int, bool) {
	n := len(b.Blocks)
	m := &meeter{blocks: b, meets: make([][]int, n), room: room, states: make([]state, n), starts: make([][]int, n)}
	for i := range m.states {
		m.states[i] = state{none, none, none, none}
	}
	for v, u := range usesOf(b.Fun) {
		m.find(v, u)
		if m.room < 0 {
			return nil, false
		}
	}
	return m.meets, true
}

// find follows a variable from the blocks in which it is set, and from those where it has a phi by that, the deepest first. So no block is passed twice: what a less deep one would find from there, a deeper one has found.
func (m *meeter) find(v int, u uses) {
	m.mark(v, u)
	deepest := 0
	for _, i := range u.sets {
		m.start(i)
		deepest = max(deepest, m.depth[i])
	}
	for depth := deepest; depth >= 0; depth-- {
		for k := 0; k < len(m.starts[depth]); k++ {
			m.follow(v, m.starts[depth][k])
		}
		m.starts[depth] = m.starts[depth][:0]
	}
}

func (m *meeter) start(block int) {
	depth := m.depth[block]
	m.starts[depth] = append(m.starts[depth], block)
}

// mark goes back from where a variable is asked for until where it is set. Where nobody asks for it, it needs no phi.
func (m *meeter) mark(v int, u uses) {
	for _, i := range u.sets {
		m.states[i].sets = v
	}
	for work := u.asks; len(work) > 0; {
		last := len(work) - 1
		i := work[last]
		work = work[:last]
		if m.states[i].needs == v {
			continue
		}
		m.states[i].needs = v
		for _, from := range m.into[i] {
			if m.states[from].sets != v {
				work = append(work, from)
			}
		}
	}
}

// follow goes from a block through those that it dominates, as far as the variable is asked for. Where a way leads from there to one that stands no deeper than the first, it meets ways that lead there round the first.
func (m *meeter) follow(v, first int) {
	for work := []int{first}; len(work) > 0; {
		last := len(work) - 1
		i := work[last]
		work = work[:last]
		if m.states[i].passed == v {
			continue
		}
		m.states[i].passed = v
		for _, to := range m.on[i] {
			if m.depth[to] <= m.depth[first] {
				m.meet(v, to)
			}
		}
		for _, next := range m.below[i] {
			if m.states[next].needs == v {
				work = append(work, next)
			}
		}
	}
}

// meet gives a variable a phi at a block, from which that is followed on.
func (m *meeter) meet(v, block int) {
	s := &m.states[block]
	if s.needs != v || s.meets == v {
		return
	}
	s.meets = v
	m.room--
	if m.room >= 0 {
		m.meets[block] = append(m.meets[block], v)
		m.start(block)
	}
}
