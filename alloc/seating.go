package alloc

import (
	"slices"

	"teasel/api"
	"teasel/uses"
)

// registers is how many there are for values.
const registers = api.Regs - Spare

// nothing is the seat of a value that has none, what sits on a seat that is free, and where a value is needed that nobody needs.
const nothing = -1

// seating gives the values of a function seats, of which the first ones are the registers. It goes through the blocks, each behind those that dominate it: so all that is live where a value is made has its seat, and the value takes the least one that is free. No more seats are needed than values are live at once. Which values clash is kept of those in registers alone, as of all values of long code it may be more than there is room for.
type seating struct {
	api.Fun
	all     bool
	seats   []int    // of each value its seat
	last    []int    // of each value that is live in the block that is gone through by which instruction it is needed last; by none of them, if it is needed behind all
	sitting []int    // of each seat which value sits there, at the place that was come to
	pairs   [][2]int // the values in registers that clash
}

func newSeating(f api.Fun, all bool) *seating {
	s := &seating{Fun: f, all: all, seats: make([]int, f.Vals), last: make([]int, f.Vals)}
	for v := range f.Vals {
		s.seats[v], s.last[v] = nothing, nothing
	}
	return s
}

// block seats what a block makes. The phis take seats all at once, as they are made.
func (s *seating) block(b api.Block, begins, ends []int) {
	s.look(b, ends)
	for seat := range s.sitting {
		s.sitting[seat] = nothing
	}
	for _, v := range begins {
		if s.seats[v] != nothing { // else it is one of the block's own phis
			s.sitting[s.seats[v]] = v
		}
	}
	for _, x := range b.Phis {
		s.sit(x.Dst)
	}
	for _, x := range b.Phis {
		s.leaveAt(nothing, x.Dst)
	}
	for i, x := range b.Insts {
		uses.Each(x, s.all, func(v int) { s.leaveAt(i, v) })
		if x.Dst != nothing {
			s.sit(x.Dst)
			s.leaveAt(nothing, x.Dst)
		}
	}
}

// look finds where the values that are live in a block are needed last.
func (s *seating) look(b api.Block, ends []int) {
	for i, x := range b.Insts {
		uses.Each(x, s.all, func(v int) { s.last[v] = i })
	}
	behind := len(b.Insts)
	if b.End == api.Branch || b.End == api.RetVal {
		s.last[b.Arg] = behind
	}
	for _, v := range ends {
		s.last[v] = behind
	}
}

// sit gives a value the least seat that is free.
func (s *seating) sit(v int) {
	seat := slices.Index(s.sitting, nothing)
	if seat == -1 {
		seat = len(s.sitting)
		s.sitting = append(s.sitting, nothing)
	}
	if seat < registers {
		for _, other := range s.sitting[:min(len(s.sitting), registers)] {
			if other != nothing {
				s.pairs = append(s.pairs, [2]int{v, other})
			}
		}
	}
	s.seats[v], s.sitting[seat] = seat, v
}

// leaveAt lets a value leave its seat, if it is here that it is needed last.
func (s *seating) leaveAt(here, v int) {
	if s.last[v] == here {
		s.sitting[s.seats[v]] = nothing
	}
}

// places answers where the values stand by their seats.
func (s *seating) places() []Place {
	l := make([]Place, len(s.seats))
	for v, seat := range s.seats {
		switch {
		case s.inRegister(v):
			l[v] = Place{Kind: Register, N: seat}
		case seat != nothing:
			l[v] = Place{Kind: Slot, N: seat - registers}
		}
	}
	return l
}

func (s *seating) inRegister(v int) bool {
	return s.seats[v] != nothing && s.seats[v] < registers
}
