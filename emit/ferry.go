package emit

import (
	"math/bits"
	"slices"

	"teasel/api"
)

// ferry is for a function in which so many ways lead to so many phis that there is no room for instructions by which each way carries what each phi takes. All values of such a function stand in slots. A way lays the numbers of the slots ready from which its phis take, several to a number, a lot; one row of instructions, behind all blocks, fetches what the lots say.
type ferry struct {
	crossings []*crossing
	half      int // half of the bits of a slot's number in a lot, and at most of a way's, or a lot's
	fits      int // how many slots a lot has
	count     int // how many lots there are
	sources   int // how many slots values have
	parcels   int // the seat of what the first phi gets, till all is fetched
	landing   int // the seat of the first lot of a trip
	way       int // the seat of the number of the way that is gone
	shift     int // the label of where a lot goes on to its next slot,
	fetch     int // of where that is looked at,
	next      int // and of where the next lot is begun
}

// crossing is a block whose phis get by ferry what they take.
type crossing struct {
	to    int
	from  []int        // the blocks from which they do; the place of each is the way's number
	lots  [][]api.Inst // the phis, lot by lot
	first int          // the number of the first lot, of all those of the function
	trips []trip
	done  int // the label of where all is fetched
}

// trip is as many lots as registers have at once, beside the way.
type trip struct {
	begin  int // the label of where it is asked which way it is,
	landed int // and of where registers have the lots
}

// How many ways to how many phis are worth a ferry, and how many lots a trip has.
const (
	leastWays = 8
	leastPhis = 3
	mostLots  = api.Regs - 1
)

// newFerry answers a function's ferry, or nil, if it has no use for one. The blocks from old on are new: they stand where branches were parted from phis.
func newFerry(f *fun, old int) *ferry {
	y := &ferry{}
	all, phis, ways := 0, 0, 0
	for to, b := range f.Blocks {
		x := &crossing{to: to}
		for _, from := range f.from[to] {
			if f.isFar(from, to, old) && f.carries(from, to) >= leastPhis {
				x.from = append(x.from, from)
			}
		}
		if len(x.from) >= leastWays {
			y.crossings = append(y.crossings, x)
			all, phis, ways = all+len(b.Phis), max(phis, len(b.Phis)), max(ways, len(x.from))
		}
	}
	if ways == 0 {
		return nil
	}
	f.spill()
	y.sources = f.slots
	y.half = (bits.Len(uint(max(y.sources, all, ways))) + 1) / 2
	y.fits = min(63/(2*y.half), lastReg+1-maskReg-y.half)
	y.parcels = firstSlot + y.sources
	y.landing = y.parcels + phis
	y.way = y.landing + mostLots
	f.slots = y.way + 1 - firstSlot
	return y
}

// isFar tells whether a run that goes on from one block to another one needs two more, at least, to do so again. Else that may be all that it does, and must be done soon.
func (f *fun) isFar(from, to, old int) bool {
	origin := func(b int, ways [][]int) int {
		if b >= old {
			return ways[b][0] // a new block stands between two old ones
		}
		return b
	}
	from = origin(from, f.from)
	return !slices.ContainsFunc(f.ways[to], func(b int) bool { return origin(b, f.ways) == from })
}

// moor numbers the lots, and gives the row's places their labels.
func (w *writer) moor() {
	y := w.ferry
	y.shift, y.fetch, y.next = w.label(), w.label(), w.label()
	for _, x := range y.crossings {
		x.lots = slices.Collect(slices.Chunk(w.Blocks[x.to].Phis, y.fits))
		x.first, x.done = y.count, w.label()
		y.count += len(x.lots)
		for range slices.Chunk(x.lots, mostLots) {
			x.trips = append(x.trips, trip{begin: w.label(), landed: w.label()})
		}
	}
}

// steps answers how many steps it takes at most to go by ferry to each crossing once. A bit is looked at by two of them.
func (y *ferry) steps() int {
	bits := 4*y.half + 1
	slot := bits + y.fits + 6
	lot := y.fits*slot + bits + y.fits + 4
	trip := bits + 2*mostLots + 2*(y.half+2) + 6
	n := y.count * lot
	for _, x := range y.crossings {
		n += len(x.trips) * trip
	}
	return n
}
