package emit

import (
	"teasel/api"
	"teasel/code"
	"teasel/locs"
)

// builder makes an image of code, no branch of which goes on to phis that others go on to, too, function by function.
type builder struct {
	code    api.Code
	all     bool
	ferries bool // where many ways lead to many phis, what these take goes over by ferry
	words   []api.Word
	entries []api.Entry
	debug   api.Debug
	bare    map[int]int // of each stop at which something may trap a mark that tells it alone
}

// build answers the image of the code that was made of c; false: it would have too many instructions, or a function too many slots.
func (m *builder) build(c api.Code) (api.Image, bool) {
	m.debug.Stops = m.code.Stops
	for fn, f := range c.Funs {
		w := newWriter(m, fn, len(f.Blocks))
		if w.ferry != nil && w.ferry.steps() > leastTurn*stepsEach*(10+size(c)) {
			return api.Image{}, false
		}
		m.entries = append(m.entries, api.Entry{At: len(m.words), Slots: w.slots})
		w.function()
		if m.isFull() || w.slots > api.MaxSlots {
			return api.Image{}, false
		}
	}
	known, e := locs.Encode(m.debug)
	return api.Image{Words: m.words, Entries: m.entries, Main: c.Main, Debug: known}, e == api.OK
}

// How long the machine may take: for each step of the code so many times 10 more than the code has instructions, phis and blocks; and each turn in which a ferry goes takes so many steps of the code.
const (
	stepsEach = 16
	leastTurn = 3
)

// size answers how many instructions, phis and blocks code has.
func size(c api.Code) int {
	n := code.Size(c)
	for _, f := range c.Funs {
		n += len(f.Blocks)
	}
	return n
}

func (m *builder) isFull() bool {
	return len(m.words) > api.MaxWords
}

func (m *builder) add(w api.Word) {
	m.words = append(m.words, w)
}

// mark answers the number of a new mark.
func (m *builder) mark(stop int, l []api.Loc) int {
	m.debug.Marks = append(m.debug.Marks, api.Mark{Stop: stop, Locs: l})
	return len(m.debug.Marks) - 1
}

// site lets a mark hold at the instruction that is added next.
func (m *builder) site(mark int) {
	m.debug.Sites = append(m.debug.Sites, api.Site{At: len(m.words), Mark: mark})
}

// trap lets the next instruction be one that may trap, at a stop.
func (m *builder) trap(stop int) {
	mark, had := m.bare[stop]
	if !had {
		mark = m.mark(stop, nil)
		m.bare[stop] = mark
	}
	m.site(mark)
}
