package emit

import (
	"slices"

	"teasel/alloc"
	"teasel/api"
	"teasel/code"
	"teasel/flow"
	"teasel/lines"
	"teasel/live"
	"teasel/uses"
)

// nothing is where no value, no block and no seat is meant.
const nothing = -1

// firstSlot is the seat of the first slot: where a value stands is its seat, the number of a register, or behind those that of a slot.
const firstSlot = api.Regs

// fun is a function, in whose blocks just those phis stand that are needed, and what is known of it ahead of writing it.
type fun struct {
	api.Fun
	ways    [][]int       // of each block those to which it goes on
	from    [][]int       // of each block those that go on to it
	begins  [][]int       // of each block the values that are live at its beginning
	ends    [][]int       // of each block the values that are live at its end
	seats   []int         // of each value, or nothing
	slots   int           // how many slots there are
	numbers map[int]int64 // the values that are numbers, and are made anew where there is no register for them
	asked   []bool        // of each value whether an instruction asks for it, or a block's end
	kins    []lines.Kin
}

func newFun(c api.Code, fn int, all bool) *fun {
	f := &fun{Fun: c.Funs[fn], ways: code.Graph(c.Funs[fn]), kins: lines.Kins(c.Funs[fn])}
	f.from, _ = flow.Into(f.ways)
	alone, n := lone(c, fn)
	places, _ := alloc.Places(alone, n, all)
	for _, p := range places {
		f.seat(p)
	}
	f.begins, f.ends, _ = live.Ends(alone, n, all)
	f.Blocks = slices.Clone(f.Blocks)
	for i, b := range f.Blocks {
		f.Blocks[i].Phis = needed(b.Phis, f.begins[i])
	}
	f.ask()
	return f
}

// seat notes where the next value stands.
func (f *fun) seat(p alloc.Place) {
	switch p.Kind {
	case alloc.Register:
		f.seats = append(f.seats, p.N)
	case alloc.Slot:
		f.seats = append(f.seats, firstSlot+p.N)
		f.slots = max(f.slots, p.N+1)
	default:
		f.seats = append(f.seats, nothing)
	}
}

// needed answers those of a block's phis that are live where it begins.
func needed(phis []api.Inst, begins []int) []api.Inst {
	var l []api.Inst
	for _, x := range phis {
		if _, is := slices.BinarySearch(begins, x.Dst); is {
			l = append(l, x)
		}
	}
	return l
}

// ask notes which values are numbers, and which are asked for.
func (f *fun) ask() {
	f.numbers, f.asked = map[int]int64{}, make([]bool, f.Vals)
	for _, b := range f.Blocks {
		for _, x := range b.Insts {
			if x.Op == api.IConst {
				f.numbers[x.Dst] = x.Imm
			}
			uses.Each(x, false, func(v int) { f.asked[v] = true })
		}
		if b.End == api.Branch || b.End == api.RetVal {
			f.asked[b.Arg] = true
		}
	}
}

// spill lets all values stand in slots, numbers too.
func (f *fun) spill() {
	for v, seat := range f.seats {
		switch {
		case seat >= firstSlot:
			f.seats[v] += registers
		case seat != nothing:
			f.seats[v] += firstSlot
		}
	}
	f.slots += registers
	f.numbers = nil
}

// registers is how many there are for values.
const registers = api.Regs - alloc.Spare

// lone answers code in which a function stands alone, and its number there: all that it calls does nothing. So what is asked of one function takes no longer for all the others.
func lone(c api.Code, fn int) (api.Code, int) {
	out := api.Code{Stops: c.Stops}
	for n := range api.MaxParams + 1 {
		out.Funs = append(out.Funs, api.Fun{Params: n, Blocks: []api.Block{{End: api.RetNone}}})
	}
	f := c.Funs[fn]
	f.Blocks = slices.Clone(f.Blocks)
	for i, b := range f.Blocks {
		f.Blocks[i].Insts = slices.Clone(b.Insts)
		for at, x := range b.Insts {
			if x.Op == api.ICall {
				f.Blocks[i].Insts[at].Imm = int64(len(x.Args))
			}
		}
	}
	out.Funs = append(out.Funs, f)
	return out, len(out.Funs) - 1
}
