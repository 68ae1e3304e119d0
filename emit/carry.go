package emit

import (
	"slices"

	"teasel/api"
	"teasel/moves"
)

// preset is a number that a seat gets.
type preset struct {
	seat int
	n    int64
}

// carried answers what moves from seat to seat where one block goes on to another one, for the phis there, and what numbers they get. One that is made anew needs no seat from which it comes.
func (f *fun) carried(from, to int) ([]moves.Move, []preset) {
	var list []moves.Move
	var numbers []preset
	way, _ := slices.BinarySearch(f.from[to], from)
	for _, x := range f.Blocks[to].Phis {
		v, seat := x.Args[way], f.seats[x.Dst]
		if n, is := f.numbers[v]; is {
			numbers = append(numbers, preset{seat, n})
		} else if f.seats[v] != seat {
			list = append(list, moves.Move{To: seat, From: f.seats[v]})
		}
	}
	return list, numbers
}

// carries answers to how many phis anything is carried from block to block.
func (f *fun) carries(from, to int) int {
	list, numbers := f.carried(from, to)
	return len(list) + len(numbers)
}

// isPassed tells whether nothing is done in a block, but that it goes on. What phis take is carried where their block begins, if one way leads there, else where those end from which it leads.
func (f *fun) isPassed(b int) bool {
	x := f.Blocks[b]
	if x.End != api.GoTo || len(x.Insts) > 0 {
		return false
	}
	if from := f.from[b]; len(from) == 1 && f.carries(from[0], b) > 0 {
		return false
	}
	return len(f.from[x.To]) == 1 || f.carries(b, x.To) == 0
}

// Registers in which no value has its seat: one for what goes from slot to slot, one for what goes round.
const (
	hand  = registers
	spare = registers + 1
)

// carry writes what is carried from block to block.
func (w *writer) carry(from, to int) {
	list, numbers := w.carried(from, to)
	list, _ = moves.Order(list, spare)
	for _, m := range list {
		w.move(m.To, m.From)
	}
	for _, x := range numbers {
		w.preset(x)
	}
}

func (w *writer) move(to, from int) {
	switch {
	case to < firstSlot && from < firstSlot:
		w.add(api.Word{Op: api.MMove, A: byte(to), B: byte(from)})
	case to < firstSlot:
		w.load(to, from)
	case from < firstSlot:
		w.store(to, from)
	default:
		w.load(hand, from)
		w.store(to, hand)
	}
}

func (w *writer) preset(x preset) {
	r := x.seat
	if r >= firstSlot {
		r = hand
	}
	w.set(r, x.n)
	if r != x.seat {
		w.store(x.seat, r)
	}
}
