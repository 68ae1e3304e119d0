package fold

import (
	"slices"

	"teasel/api"
	"teasel/code"
)

// walk follows the ways of a function on which a run may go, with what is known of its values on them. A value is taken to be the first number that it is found to be, till it is found to be another one, too: so what hangs on itself in a loop alone is known as well.
type walk struct {
	api.Fun
	facts
	into    [][]int
	uses    [][]use
	reached []bool
	ways    map[[2]int]struct{} // from which block to which one
	next    [][2]int            // ways that are to be followed still
	changed []int               // values whose users are to be told of them still
}

// use is where a value is used: as an Arg of a phi, or by what stands at a place of a block; behind its last instruction that is its end.
type use struct {
	block int
	phi   bool
	at    int
	arg   int
}

func newWalk(f api.Fun) *walk {
	n := len(f.Blocks)
	w := &walk{Fun: f, facts: make(facts, f.Vals), into: make([][]int, n), uses: make([][]use, f.Vals), reached: make([]bool, n), ways: map[[2]int]struct{}{}}
	for i, l := range code.Graph(f) {
		for _, to := range l {
			w.into[to] = append(w.into[to], i)
		}
	}
	for i, b := range f.Blocks {
		for at, x := range b.Phis {
			w.note(x.Args, use{block: i, phi: true, at: at})
		}
		for at, x := range b.Insts {
			w.note(x.Args, use{block: i, at: at})
		}
		if b.End == api.Branch {
			w.note([]int{b.Arg}, use{block: i, at: len(b.Insts)})
		}
	}
	return w
}

func (w *walk) note(args []int, u use) {
	for k, v := range args {
		u.arg = k
		w.uses[v] = append(w.uses[v], u)
	}
}

// goOn follows all ways that are found, and all that becomes known on them.
func (w *walk) goOn() {
	for {
		if n := len(w.next); n > 0 {
			way := w.next[n-1]
			w.next = w.next[:n-1]
			w.follow(way[0], way[1])
		} else if n := len(w.changed); n > 0 {
			v := w.changed[n-1]
			w.changed = w.changed[:n-1]
			for _, u := range w.uses[v] {
				w.tell(u)
			}
		} else {
			return
		}
	}
}

// follow goes on to a block from another one, which its phis take.
func (w *walk) follow(from, to int) {
	k, _ := slices.BinarySearch(w.into[to], from)
	for _, x := range w.Blocks[to].Phis {
		w.learn(x.Dst, w.facts[x.Args[k]])
	}
	w.enter(to)
}

// enter goes through a block, when it is first reached.
func (w *walk) enter(block int) {
	if w.reached[block] {
		return
	}
	w.reached[block] = true
	for at := range w.Blocks[block].Insts {
		w.inst(block, at)
	}
	w.end(block)
}

func (w *walk) inst(block, at int) {
	if x := w.Blocks[block].Insts[at]; x.Dst != -1 {
		w.learn(x.Dst, w.reckon(x))
	}
}

func (w *walk) end(block int) {
	for _, to := range w.onFrom(block) {
		way := [2]int{block, to}
		if _, is := w.ways[way]; !is {
			w.ways[way] = struct{}{}
			w.next = append(w.next, way)
		}
	}
}

// onFrom answers where a block may go on by what is known.
func (w *walk) onFrom(block int) []int {
	b := w.Blocks[block]
	switch {
	case b.End == api.GoTo:
		return []int{b.To}
	case b.End != api.Branch:
		return nil
	case w.facts[b.Arg].kind != always:
		return []int{b.To, b.Else}
	case w.facts[b.Arg].n != 0:
		return []int{b.To}
	}
	return []int{b.Else}
}

// learn adds a fact to what is known of a value.
func (w *walk) learn(v int, x fact) {
	if now := w.facts[v].and(x); now != w.facts[v] {
		w.facts[v] = now
		w.changed = append(w.changed, v)
	}
}

// tell lets one that uses a value know what is known of that now; a phi asks that one Arg alone, as it may have very many.
func (w *walk) tell(u use) {
	b := w.Blocks[u.block]
	switch {
	case u.phi:
		if w.goes(w.into[u.block][u.arg], u.block) {
			w.learn(b.Phis[u.at].Dst, w.facts[b.Phis[u.at].Args[u.arg]])
		}
	case !w.reached[u.block]:
	case u.at == len(b.Insts):
		w.end(u.block)
	default:
		w.inst(u.block, u.at)
	}
}

// goes tells whether a run may go on from a block to another one.
func (w *walk) goes(from, to int) bool {
	_, is := w.ways[[2]int{from, to}]
	return is
}
