package number

import (
	"teasel/api"
	"teasel/code"
	"teasel/flow"
)

// reckoning is a phi or an instruction that another one may stand for; all that stand behind it, and ahead of the place end, are reckoned only where it was.
type reckoning struct {
	api.Inst
	block int
	end   int
}

// order is a function's reckonings, each behind those that must be done ahead of it.
type order struct {
	api.Fun
	below [][]int // of each block those of which it is the nearest that dominates them
	all   []reckoning
}

func newOrder(f api.Fun) *order {
	g := code.Graph(f)
	blocks, _ := flow.Order(g)
	above, _ := flow.Above(g)
	l := &order{Fun: f, below: make([][]int, len(g))}
	for _, i := range blocks {
		if up := above[i]; up >= 0 {
			l.below[up] = append(l.below[up], i)
		}
	}
	l.lay(0)
	return l
}

// lay lays down the reckonings of a block, and of all that it dominates.
func (l *order) lay(block int) {
	first := len(l.all)
	for _, x := range l.Blocks[block].Phis {
		l.all = append(l.all, reckoning{Inst: x, block: block})
	}
	for _, x := range l.Blocks[block].Insts {
		if code.Pure(x.Op) || x.Op == api.Div || x.Op == api.Rem {
			l.all = append(l.all, reckoning{Inst: x, block: block})
		}
	}
	behind := len(l.all)
	for _, next := range l.below[block] {
		l.lay(next)
	}
	for p := first; p < behind; p++ {
		l.all[p].end = len(l.all)
	}
}

// over tells whether a reckoning was always done where another one is.
func (l *order) over(a, b int) bool {
	return a < b && b < l.all[a].end
}
