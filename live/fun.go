package live

import (
	"teasel/api"
	"teasel/code"
	"teasel/flow"
	"teasel/uses"
)

// fun is a function of plain code, in which places are numbered through all blocks: each instruction is one, and each block's end, behind its instructions.
type fun struct {
	from  [][]int   // of each block those that go on to it
	order []int     // the blocks, each ahead of most of those to which it goes on
	first []int     // of each block its first place; then how many places there are
	phis  [][]int   // of each block the values that its phis make
	makes []int     // of each place the value that is made there, or -1
	home  []point   // of each value where it is made; nowhere, if it isn't
	uses  [][]point // of each value where it is used, but of each block the last place alone
	comes [][]int   // of each value the blocks at whose ends phis use it
}

// point is a place in a block; a phi's is nowhere.
type point struct {
	block int
	place int
}

const nowhere = -1

func newFun(f api.Fun, all bool) *fun {
	g := code.Graph(f)
	l := &fun{phis: make([][]int, len(g)), home: make([]point, f.Vals), uses: make([][]point, f.Vals), comes: make([][]int, f.Vals)}
	l.from, _ = flow.Into(g)
	l.order, _ = flow.Order(g)
	for v := range l.home {
		l.home[v] = point{nowhere, nowhere}
	}
	for i, b := range f.Blocks {
		l.first = append(l.first, len(l.makes))
		for _, x := range b.Phis {
			l.phi(i, x)
		}
		for _, x := range b.Insts {
			uses.Each(x, all, func(v int) { l.use(i, v) })
			l.place(i, x.Dst)
		}
		if b.End == api.Branch || b.End == api.RetVal {
			l.use(i, b.Arg)
		}
		l.place(i, nowhere)
	}
	l.first = append(l.first, len(l.makes))
	return l
}

func (l *fun) phi(block int, x api.Inst) {
	l.phis[block] = append(l.phis[block], x.Dst)
	l.home[x.Dst] = point{block, nowhere}
	for k, v := range x.Args {
		l.comes[v] = append(l.comes[v], l.from[block][k])
	}
}

// use notes that a value is used at the place that is numbered next.
func (l *fun) use(block, value int) {
	here, had := point{block, len(l.makes)}, l.uses[value]
	if n := len(had); n > 0 && had[n-1].block == block {
		had[n-1] = here
		return
	}
	l.uses[value] = append(had, here)
}

// place numbers one, at which a value is made, or none.
func (l *fun) place(block, value int) {
	if value != nowhere {
		l.home[value] = point{block, len(l.makes)}
	}
	l.makes = append(l.makes, value)
}
