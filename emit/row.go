package emit

import (
	"slices"

	"teasel/api"
)

// The registers of a ferry's row. Each mask has one bit, from the lowest on. What is fetched comes into the last register; what was fetched ahead of it goes on to those below.
const (
	lotReg   = 0
	testReg  = 1
	countReg = 2 // which lot it is
	halfReg  = 3
	wholeReg = 4
	maskReg  = 5
	lastReg  = api.Regs - 1
)

// embark writes the end of a block that goes on by ferry; false: it goes on as others do.
func (w *writer) embark(b, to int) bool {
	if w.ferry == nil {
		return false
	}
	for _, x := range w.ferry.crossings {
		way, is := slices.BinarySearch(x.from, b)
		if x.to != to || !is {
			continue
		}
		w.board(x, 0, way)
		if len(x.trips) > 1 {
			w.set(lastReg, int64(way))
		}
		w.jump(api.MJump, 0, x.trips[0].landed)
		return true
	}
	return false
}

// board puts the lots of a way's trip into registers. A slot's number in a lot is at least 1, so that there are no more where nothing is left.
func (w *writer) board(x *crossing, trip, way int) {
	arg, _ := slices.BinarySearch(w.from[x.to], x.from[way])
	for r, phis := range tripOf(x, trip) {
		lot := int64(0)
		for k, y := range phis {
			lot |= int64(w.seats[y.Args[arg]]-firstSlot+1) << (2 * w.ferry.half * k)
		}
		w.set(r, lot)
	}
}

// tripOf answers the lots of a trip.
func tripOf(x *crossing, trip int) [][]api.Inst {
	return x.lots[trip*mostLots : min(len(x.lots), (trip+1)*mostLots)]
}

// row writes the ferry's row: the trips, how a lot's slots are fetched, one by one, and where they are brought when nothing of the lot is left.
func (w *writer) row() {
	y := w.ferry
	for _, x := range y.crossings {
		for i := range x.trips {
			w.trip(x, i)
		}
		w.here(x.done)
		for i, p := range w.Blocks[x.to].Phis {
			w.move(w.seats[p.Dst], y.parcels+i)
		}
		w.jump(api.MJump, 0, w.target(x.to))
	}
	w.here(y.next)
	w.add(api.Word{Op: api.Add, A: countReg, B: countReg, C: maskReg})
	w.jump(api.MJump, 0, y.fetch)
	w.here(y.shift)
	w.add(api.Word{Op: api.Shr, A: lotReg, B: lotReg, C: wholeReg})
	brought := w.label()
	w.jump(api.MZero, lotReg, brought)
	w.here(y.fetch)
	for r := lastReg + 1 - y.fits; r < lastReg; r++ {
		w.move(r, r+1)
	}
	w.choose(choice{reg: lotReg, upper: lastReg, least: 1, most: y.sources, done: func(n int) {
		w.load(lastReg, firstSlot+n-1)
		w.jump(api.MJump, 0, y.shift)
	}}, 0, 0)
	w.here(brought)
	w.choose(choice{reg: countReg, upper: lotReg, least: 0, most: y.count - 1, done: w.bring}, 0, 0)
}

// trip writes what is done on a trip till its first slot is looked at.
func (w *writer) trip(x *crossing, i int) {
	y, lots := w.ferry, tripOf(x, i)
	if i > 0 {
		w.here(x.trips[i].begin)
		w.ready()
		w.load(lotReg, y.way)
		w.choose(choice{reg: lotReg, upper: lastReg, least: 0, most: len(x.from) - 1, done: func(way int) {
			w.board(x, i, way)
			w.jump(api.MJump, 0, x.trips[i].landed)
		}}, 0, 0)
	}
	w.here(x.trips[i].landed)
	for r := range lots {
		w.store(y.landing+r, r)
	}
	if i == 0 && len(x.trips) > 1 {
		w.store(y.way, lastReg)
	}
	w.ready()
	w.set(countReg, int64(x.first+i*mostLots))
	w.load(lotReg, y.landing)
	w.jump(api.MJump, 0, y.fetch)
}

// ready puts into their registers the numbers that the row needs.
func (w *writer) ready() {
	w.set(halfReg, int64(w.ferry.half))
	w.set(wholeReg, int64(2*w.ferry.half))
	for bit := range w.ferry.half {
		w.set(maskReg+bit, 1<<bit)
	}
}

// bring writes what is done when all of a lot is fetched: it goes to the parcels, and it goes on with the next lot.
func (w *writer) bring(lot int) {
	y := w.ferry
	last, _ := slices.BinarySearchFunc(y.crossings, lot+1, func(x *crossing, n int) int { return x.first - n })
	x := y.crossings[last-1]
	at := lot - x.first
	for k := range x.lots[at] {
		w.store(y.parcels+at*y.fits+k, lastReg+1-len(x.lots[at])+k)
	}
	switch next := at + 1; {
	case next == len(x.lots):
		w.jump(api.MJump, 0, x.done)
	case next%mostLots == 0:
		w.jump(api.MJump, 0, x.trips[next/mostLots].begin)
	default:
		w.load(lotReg, y.landing+next%mostLots)
		w.jump(api.MJump, 0, y.next)
	}
}

// choice is what is done by the number, from least to most, that a register has. The upper half of it is looked at in another register.
type choice struct {
	reg   byte
	upper byte
	least int
	most  int
	done  func(n int)
}

// choose writes a choice among those numbers whose lowest bits, as many as level says, are those of rest: bit by bit, till one is left.
func (w *writer) choose(c choice, level, rest int) {
	first := rest
	if first < c.least {
		first += 1 << level
	}
	if first+1<<level > c.most {
		c.done(first)
		return
	}
	if level == w.ferry.half {
		w.add(api.Word{Op: api.Shr, A: c.upper, B: c.reg, C: halfReg})
		c.reg = c.upper
	}
	w.add(api.Word{Op: api.And, A: testReg, B: c.reg, C: byte(maskReg + level%w.ferry.half)})
	zero := w.label()
	w.jump(api.MZero, testReg, zero)
	w.choose(c, level+1, rest+1<<level)
	w.here(zero)
	w.choose(c, level+1, rest)
}
