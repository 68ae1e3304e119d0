package emit

import "teasel/api"

// use answers a register that has a value. One that stands in a slot stays in a register from when it is asked for, or made, until there is need of that.
func (w *writer) use(v int) byte {
	r := w.holder(v)
	if n, is := w.numbers[v]; is && r == nothing {
		return w.number(n)
	}
	if r == nothing {
		r = w.take(w.at)
		w.regs[r].value = v
		w.load(r, w.seats[v])
	}
	w.regs[r].turn = w.turn
	return byte(r)
}

// number answers a register that has a number.
func (w *writer) number(n int64) byte {
	r := w.having(func(x register) bool { return x.isNumber && x.number == n })
	if r == nothing {
		r = w.take(w.at)
		w.regs[r].isNumber, w.regs[r].number = true, n
		w.set(r, n)
	}
	w.regs[r].turn = w.turn
	return byte(r)
}

// give answers the register into which the instruction that is written puts a value.
func (w *writer) give(v int) byte {
	r := w.seats[v]
	if r < firstSlot {
		w.drop(r, w.at+1)
		w.regs[r].value = v
		return byte(r)
	}
	r = w.take(w.at + 1)
	w.regs[r] = register{value: v, fresh: true, turn: w.turn}
	return byte(r)
}

// take answers a register for something else, that has nothing any more: one of which nothing is needed from a place on, if there is one; of these, and else of those that have what stands elsewhere, that which was asked for longest ago. From the last one on, as values have their seats in the first ones.
func (w *writer) take(from int) int {
	best := nothing
	for r := api.Regs - 1; r >= 0; r-- {
		if !w.isBound(r, from) && (best == nothing || w.isFreer(r, best, from)) {
			best = r
		}
	}
	w.drop(best, from)
	return best
}

// isBound tells whether a register must keep what it has: where that has its seat there, or was asked for at this turn. The instruction that is written has read what it asked for when it puts something anywhere.
func (w *writer) isBound(r, from int) bool {
	x := w.regs[r]
	live := w.isLive(x.value, from)
	return live && w.seats[x.value] == r || x.turn == w.turn && (live || from == w.at)
}

func (w *writer) isFreer(r, than, from int) bool {
	live, liveThan := w.isLive(w.regs[r].value, from), w.isLive(w.regs[than].value, from)
	if live != liveThan {
		return liveThan
	}
	return w.regs[r].turn < w.regs[than].turn
}

// drop lets a register have nothing. What is needed from a place on goes to its seat.
func (w *writer) drop(r, from int) {
	if x := w.regs[r]; x.fresh && w.isLive(x.value, from) {
		w.store(w.seats[x.value], r)
	}
	w.regs[r] = register{value: nothing}
}

// settle lets all values go to their seats that are needed behind the block.
func (w *writer) settle() {
	for r := range w.regs {
		w.drop(r, w.behind)
	}
}

func (w *writer) load(r, seat int) {
	w.add(api.Word{Op: api.MIn, A: byte(r), Imm: int64(seat - firstSlot)})
}

func (w *writer) store(seat, r int) {
	w.add(api.Word{Op: api.MOut, A: byte(r), Imm: int64(seat - firstSlot)})
}
