package ssa

import (
	"slices"

	"teasel/api"
)

// writer writes a function without variables, block by block, each behind the one that is nearest above it.
type writer struct {
	*blocks
	meets   [][]int
	out     []api.Block
	now     []int       // of each variable the value that it has; none: it has the 0 with which a call begins
	past    []change    // what now has had, the last one last
	instead map[int]int // of each value that was a variable's what stands in its place
	made    map[int]struct{}
	free    int // no lesser number of a value is free
	zero    int // the value that is 0, if one is needed
}

// change is what a variable had ahead of a change.
type change struct {
	variable int
	value    int
}

func newWriter(b *blocks, meets [][]int) *writer {
	w := &writer{blocks: b, meets: meets, out: make([]api.Block, len(b.Blocks)), now: make([]int, b.Vars), instead: map[int]int{}, made: map[int]struct{}{}, zero: none}
	for v := range w.now {
		w.now[v] = none
	}
	for _, x := range b.Blocks {
		for _, l := range [][]api.Inst{x.Phis, x.Insts} {
			for _, y := range l {
				if y.Dst != -1 && y.Op != api.IGet {
					w.made[y.Dst] = struct{}{}
				}
			}
		}
	}
	return w
}

// function answers what the function becomes.
func (w *writer) function() api.Fun {
	for i, b := range w.Blocks {
		w.out[i] = api.Block{Phis: w.phis(i), End: b.End, To: b.To, Else: b.Else}
	}
	w.block(0)
	if w.zero != none {
		first := &w.out[0]
		first.Insts = append([]api.Inst{{Op: api.IConst, Dst: w.zero}}, first.Insts...)
	}
	vals := 0
	for v := range w.made {
		vals = max(vals, v+1)
	}
	return api.Fun{Params: w.Params, Vals: vals, Blocks: w.out}
}

// phis answers those of a block, those of variables behind those that it had; their Args come by the blocks that go on to it.
func (w *writer) phis(block int) []api.Inst {
	var l []api.Inst
	for _, x := range w.Blocks[block].Phis {
		l = append(l, w.phi(x.Dst, block))
	}
	for range w.meets[block] {
		l = append(l, w.phi(w.value(), block))
	}
	return l
}

func (w *writer) phi(dst, block int) api.Inst {
	return api.Inst{Op: api.IPhi, Dst: dst, Args: make([]int, len(w.into[block]))}
}

// value answers the number of a new one.
func (w *writer) value() int {
	for {
		v := w.free
		w.free++
		if _, is := w.made[v]; !is {
			w.made[v] = struct{}{}
			return v
		}
	}
}

// block writes a block and those below it; behind it the variables have what they had ahead of it.
func (w *writer) block(i int) {
	had := len(w.past)
	b, out := w.Blocks[i], &w.out[i]
	for k, v := range w.meets[i] {
		w.set(v, out.Phis[len(b.Phis)+k].Dst)
	}
	for _, x := range b.Insts {
		w.inst(out, x)
	}
	if b.End == api.Branch || b.End == api.RetVal {
		out.Arg = w.stands(b.Arg)
	}
	for _, to := range w.on[i] {
		w.goOn(i, to)
	}
	for _, next := range w.below[i] {
		w.block(next)
	}
	for len(w.past) > had {
		last := len(w.past) - 1
		w.now[w.past[last].variable] = w.past[last].value
		w.past = w.past[:last]
	}
}

func (w *writer) inst(out *api.Block, x api.Inst) {
	switch x.Op {
	case api.IGet:
		w.instead[x.Dst] = w.variable(int(x.Imm))
	case api.ISet:
		w.set(int(x.Imm), w.stands(x.Args[0]))
	default:
		y := api.Inst{Op: x.Op, Dst: x.Dst, Imm: x.Imm, Site: x.Site}
		for _, v := range x.Args {
			y.Args = append(y.Args, w.stands(v))
		}
		if x.Op == api.IMark || x.Op == api.ICall {
			y.Dbg = w.known(x.Dbg)
		}
		out.Insts = append(out.Insts, y)
	}
}

// goOn gives the phis of a block their Args for one that goes on to it.
func (w *writer) goOn(from, to int) {
	k, _ := slices.BinarySearch(w.into[to], from)
	phis, had := w.out[to].Phis, w.Blocks[to].Phis
	for i, x := range had {
		phis[i].Args[k] = w.stands(x.Args[k])
	}
	for i, v := range w.meets[to] {
		phis[len(had)+i].Args[k] = w.variable(v)
	}
}

// known answers what is known where variables are asked for no more.
func (w *writer) known(l []api.Dbg) []api.Dbg {
	var out []api.Dbg
	for _, d := range l {
		k := api.Dbg{Depth: d.Depth, Var: d.Var, Kind: api.DNum}
		switch {
		case d.Kind == api.DNum:
			k.B = d.B
		case d.Kind == api.DVal:
			k.Kind, k.Arg, k.A, k.B = api.DVal, w.stands(d.Arg), d.A, d.B
		case w.now[d.Arg] != none:
			k.Kind, k.Arg, k.A = api.DVal, w.now[d.Arg], 1
		}
		out = append(out, k)
	}
	return out
}

func (w *writer) set(variable, value int) {
	w.past = append(w.past, change{variable, w.now[variable]})
	w.now[variable] = value
}

// variable answers the value that a variable has.
func (w *writer) variable(v int) int {
	if w.now[v] != none {
		return w.now[v]
	}
	if w.zero == none {
		w.zero = w.value()
	}
	return w.zero
}

// stands answers the value that stands where one was used.
func (w *writer) stands(v int) int {
	if x, ok := w.instead[v]; ok {
		return x
	}
	return v
}
