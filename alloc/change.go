package alloc

import (
	"teasel/api"
	"teasel/paint"
)

// change lets the values in registers change these among themselves, so that those that like each other mostly have one.
func (s *seating) change() {
	colours, _ := paint.Paint(s.Vals, s.pairs, s.likes(), registers)
	for v, colour := range colours {
		if s.inRegister(v) && colour == nothing {
			return // only those whose neighbours leave a colour are sure of one; the seats are sure for all
		}
	}
	for v, colour := range colours {
		if s.inRegister(v) {
			s.seats[v] = colour
		}
	}
}

// likes answers which values like each other: a phi and what it takes, a copy and what it is made of. In one register there is nothing to be moved between them.
func (s *seating) likes() [][2]int {
	var l [][2]int
	like := func(v, other int) {
		if s.inRegister(v) && s.inRegister(other) {
			l = append(l, [2]int{v, other})
		}
	}
	for _, b := range s.Blocks {
		for _, x := range b.Phis {
			for _, v := range x.Args {
				like(x.Dst, v)
			}
		}
		for _, x := range b.Insts {
			if x.Op == api.ICopy {
				like(x.Dst, x.Args[0])
			}
		}
	}
	return l
}
