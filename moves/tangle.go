package moves

// tangle is a list of moves, no two of which have one To. Its methods are asked in their order.
type tangle struct {
	list []Move
	by   map[int]int // of each place that is a To the number of its move
	asks []int       // of each move how many others, that aren't done, need what its To has still
	done []bool
}

func newTangle(list []Move) (*tangle, bool) {
	t := &tangle{list: list, by: map[int]int{}, asks: make([]int, len(list)), done: make([]bool, len(list))}
	for i, m := range list {
		if _, twice := t.by[m.To]; twice {
			return nil, false
		}
		t.by[m.To] = i
		t.done[i] = m.To == m.From
	}
	for i, m := range list {
		if before, is := t.by[m.From]; is && !t.done[i] {
			t.asks[before]++
		}
	}
	return t, true
}

// rows does one by one the moves whose To no other move needs any more, and answers them.
func (t *tangle) rows() []Move {
	var ready []int
	for i := range t.list {
		if t.asks[i] == 0 && !t.done[i] {
			ready = append(ready, i)
		}
	}
	var out []Move
	for len(ready) > 0 {
		i := ready[len(ready)-1]
		ready = ready[:len(ready)-1]
		t.done[i] = true
		out = append(out, t.list[i])
		before, is := t.by[t.list[i].From]
		if !is {
			continue
		}
		t.asks[before]--
		if t.asks[before] == 0 && !t.done[before] {
			ready = append(ready, before)
		}
	}
	return out
}

// circles does what is left and answers it: as each To is needed, and there are no more moves than these, each is needed by one other move.
func (t *tangle) circles() [][]Move {
	var out [][]Move
	for first := range t.list {
		var circle []Move
		for i := first; !t.done[i]; i = t.by[t.list[i].From] {
			t.done[i] = true
			circle = append(circle, t.list[i])
		}
		if len(circle) > 0 {
			out = append(out, circle)
		}
	}
	return out
}

// opened answers a circle's moves one by one: its first To goes to spare ahead of them, from where the last To gets it.
func opened(circle []Move, spare int) []Move {
	out := append([]Move{{To: spare, From: circle[0].To}}, circle...)
	out[len(out)-1].From = spare
	return out
}
