package emit

import (
	"teasel/api"
	"teasel/uses"
)

// desk is what is known while a block is written, one instruction behind the other.
type desk struct {
	at     int   // the place of the instruction that is written
	behind int   // the place of what is needed behind the block
	last   []int // of each value the place at which the block needs it last, or nothing
	named  []int // the values of which last tells a place
	turn   int   // goes on where no register is needed any more that was asked for
	regs   [api.Regs]register
	near   map[int][]int // by the values from which they come those that were made
}

// register is what one has: a value that has its seat there, or one that has it elsewhere, for a while, or nothing.
type register struct {
	value    int
	fresh    bool  // the value's seat doesn't have it yet
	isNumber bool  // it is known that it has a number
	number   int64 // that one
	turn     int   // when it was asked for last
}

func newDesk(values int) *desk {
	d := &desk{last: make([]int, values)}
	for v := range d.last {
		d.last[v] = nothing
	}
	return d
}

// open looks where a block needs values, and lets no register have anything.
func (d *desk) open(b api.Block, ends []int, all bool) {
	for _, v := range d.named {
		d.last[v] = nothing
	}
	d.named = d.named[:0]
	for at, x := range b.Insts {
		uses.Each(x, all, func(v int) { d.need(v, at) })
	}
	if b.End == api.Branch || b.End == api.RetVal {
		d.need(b.Arg, len(b.Insts))
	}
	d.behind = len(b.Insts) + 1
	for _, v := range ends {
		d.need(v, d.behind)
	}
	d.near = map[int][]int{}
	for r := range d.regs {
		d.regs[r] = register{value: nothing}
	}
}

func (d *desk) need(v, at int) {
	d.last[v] = at
	d.named = append(d.named, v)
}

// isLive tells whether what a register has, or any value that was made, is needed from a place on.
func (d *desk) isLive(v, from int) bool {
	return v != nothing && d.last[v] >= from
}

// having answers a register that has something, or nothing.
func (d *desk) having(is func(x register) bool) int {
	for r, x := range d.regs {
		if is(x) {
			return r
		}
	}
	return nothing
}

// holder answers the register that has a value, or nothing.
func (d *desk) holder(v int) int {
	return d.having(func(x register) bool { return x.value == v })
}
