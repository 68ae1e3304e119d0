package trace

import (
	"teasel/api"
	"teasel/code"
	"teasel/flow"
)

// routine is a function as it is run. The values of a call stand in cells, behind its arguments: those of a block behind those of the block that is nearest above it, as a value is used only where its block dominates. So a call has no more cells than it has made values on its way: a function may have many values, and many calls of it be open.
type routine struct {
	blocks []block
	cells  map[int]int
	vars   map[int]int
}

// block is one of a routine's: its instructions name cells where those of the code name values, and variables by the routine's numbers (but for what is known, which is rarely asked for).
type block struct {
	api.Block
	ways []way
}

// way is where a block goes on, and which of the phis' Args there belong to it.
type way struct {
	to  int
	arg int
}

func newRoutine(f api.Fun) *routine {
	r := &routine{blocks: make([]block, len(f.Blocks)), cells: map[int]int{}, vars: map[int]int{}}
	r.number(f)
	for i, b := range f.Blocks {
		b.Phis = r.insts(b.Phis)
		b.Insts = r.insts(b.Insts)
		b.Arg = r.cells[b.Arg]
		r.blocks[i].Block = b
	}
	had := make([]int, len(f.Blocks)) // of each block how many that go on to it stand ahead
	for i, next := range code.Graph(f) {
		for _, to := range next {
			r.blocks[i].ways = append(r.blocks[i].ways, way{to: to, arg: had[to]})
			had[to]++
		}
	}
	return r
}

// number gives each value a cell. In the order of the ways a block stands behind the one that is nearest above it.
func (r *routine) number(f api.Fun) {
	g := code.Graph(f)
	order, _ := flow.Order(g)
	above, _ := flow.Above(g)
	ends := make([]int, len(g)) // of each block the first cell behind its values
	for _, i := range order {
		next := f.Params
		if above[i] >= 0 {
			next = ends[above[i]]
		}
		for _, l := range [][]api.Inst{f.Blocks[i].Phis, f.Blocks[i].Insts} {
			for _, x := range l {
				if x.Dst != -1 {
					r.cells[x.Dst] = next
					next++
				}
			}
		}
		ends[i] = next
	}
}

func (r *routine) insts(l []api.Inst) []api.Inst {
	out := make([]api.Inst, len(l))
	for i, x := range l {
		x.Args = r.each(x.Args)
		if x.Op == api.IGet || x.Op == api.ISet {
			x.Imm = int64(r.variable(int(x.Imm)))
		}
		if x.Dst != -1 {
			x.Dst = r.cells[x.Dst]
		}
		out[i] = x
	}
	return out
}

func (r *routine) each(values []int) []int {
	l := make([]int, len(values))
	for i, v := range values {
		l[i] = r.cells[v]
	}
	return l
}

// variable answers the number of a variable: they are numbered as they are met, so that a call has few of those that it doesn't set.
func (r *routine) variable(n int) int {
	number, ok := r.vars[n]
	if !ok {
		number = len(r.vars)
		r.vars[n] = number
	}
	return number
}
