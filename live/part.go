package live

import (
	"math/bits"
	"slices"
)

// set is some of 64 neighbouring values, each of which is a bit.
type set uint64

const width = 64

// each tells the values of a set, of which first is the least that it may have, one by one, rising.
func (s set) each(first int, tell func(value int)) {
	for ; s != 0; s &= s - 1 {
		tell(first + bits.TrailingZeros64(uint64(s)))
	}
}

// part is where 64 neighbouring values of a function are live. It goes on from these to the next ones, as all values' sets at once may be more than there is room for.
type part struct {
	*fun
	least  int   // the first one of the values
	begins []set // of each block which are live at its beginning
	ends   []set // of each block which are live at its end
	byPhis []set // of each block which are made by its phis
	byRest []set // of each block which are made by its instructions
	needed []set // of each block which are used in it
	used   []set // of each place which are used there, and in its block behind it no more
	open   []set // of each block which are live ahead of its phis, but of those that go on to it this isn't noted
	work   []int // the blocks of which some are, or were, open
}

func newPart(f *fun) *part {
	sets := func() []set { return make([]set, len(f.phis)) }
	return &part{fun: f, least: -width, begins: sets(), ends: sets(), byPhis: sets(), byRest: sets(), needed: sets(), open: sets(), used: make([]set, len(f.makes))}
}

// next goes on to the next values, if there are any.
func (p *part) next() bool {
	p.least += width
	if p.least >= len(p.uses) {
		return false
	}
	for _, l := range [][]set{p.begins, p.ends, p.byPhis, p.byRest, p.needed, p.used} {
		clear(l)
	}
	for v := p.least; v < min(p.least+width, len(p.uses)); v++ {
		p.note(v)
	}
	p.climb()
	return true
}

// bit answers the set of one value, or the empty set, if it is none of the part.
func (p *part) bit(value int) set {
	return 1 << uint64(value-p.least)
}

func (p *part) note(value int) {
	is := p.bit(value)
	switch home := p.home[value]; {
	case home.block == nowhere:
		return
	case home.place == nowhere:
		p.byPhis[home.block] |= is
	default:
		p.byRest[home.block] |= is
	}
	for _, u := range p.uses[value] {
		p.used[u.place] |= is
		p.needed[u.block] |= is
	}
	for _, b := range p.comes[value] {
		p.ends[b] |= is
	}
}

// climb goes up from all uses until where the values are made: from all at once, so that values that are used in one part of the function soon go on together.
func (p *part) climb() {
	for _, b := range slices.Backward(p.order) {
		p.want(b, p.needed[b]|p.ends[b])
	}
	for i := 0; i < len(p.work); i++ {
		b := p.work[i]
		s := p.open[b]
		p.open[b] = 0
		for _, before := range p.from[b] {
			fresh := s &^ p.ends[before]
			p.ends[before] |= fresh
			p.want(before, fresh)
		}
	}
	p.work = p.work[:0]
}

// want notes that values are used in a block, or live at its end: so they are live at its beginning, and ahead of it, but for those that are made in it.
func (p *part) want(block int, s set) {
	s &^= p.byRest[block] | p.begins[block]
	p.begins[block] |= s
	s &^= p.byPhis[block]
	if s == 0 {
		return
	}
	if p.open[block] == 0 {
		p.work = append(p.work, block)
	}
	p.open[block] |= s
}

// ahead answers which values are live right ahead of an instruction of a block.
func (p *part) ahead(block, at int) set {
	live := p.ends[block]
	for place := p.first[block+1] - 1; place >= p.first[block]+at; place-- {
		live = live&^p.bit(p.makes[place]) | p.used[place]
	}
	return live
}

// clashes tells, of each value that a block makes, with which values of the part it clashes: those that are live right behind it. Two phis of the block aren't told: they clash anyhow.
func (p *part) clashes(block int, tell func(v, w int)) {
	live := p.ends[block]
	for place := p.first[block+1] - 1; place >= p.first[block]; place-- {
		made := p.makes[place]
		live &^= p.bit(made)
		if made != nowhere {
			live.each(p.least, func(v int) { tell(made, v) })
		}
		live |= p.used[place]
	}
	live &^= p.byPhis[block]
	for _, made := range p.phis[block] {
		live.each(p.least, func(v int) { tell(made, v) })
	}
}
