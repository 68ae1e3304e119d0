package fold

import "teasel/api"

// writer writes what a function becomes by what was found on a walk.
type writer struct {
	*walk
	place []int // of each block that is reached its new number
	count int
}

func newWriter(w *walk) *writer {
	l := &writer{walk: w, place: make([]int, len(w.Blocks))}
	for i, is := range w.reached {
		if is {
			l.place[i] = l.count
			l.count++
		}
	}
	return l
}

func (w *writer) function() api.Fun {
	f := api.Fun{Params: w.Params, Vals: w.Vals, Blocks: make([]api.Block, 0, w.count)}
	for i, is := range w.reached {
		if is {
			f.Blocks = append(f.Blocks, w.block(i))
		}
	}
	return f
}

// block answers what a block becomes. Phis that are known stand ahead of its instructions, where all that asks for them finds them.
func (w *writer) block(i int) api.Block {
	var out api.Block
	b := w.Blocks[i]
	for _, x := range b.Phis {
		if w.isKnown(x.Dst) {
			out.Insts = append(out.Insts, w.number(x.Dst))
		} else {
			out.Phis = append(out.Phis, w.phi(i, x))
		}
	}
	for _, x := range b.Insts {
		out.Insts = append(out.Insts, w.rewritten(x))
	}
	w.finish(&out, i)
	return out
}

func (w *writer) isKnown(v int) bool {
	return v != -1 && w.facts[v].kind == always
}

func (w *writer) number(v int) api.Inst {
	return api.Inst{Op: api.IConst, Dst: v, Imm: w.facts[v].n}
}

// phi answers a phi of a block without the Args of ways on which no run goes.
func (w *writer) phi(block int, x api.Inst) api.Inst {
	y := api.Inst{Op: x.Op, Dst: x.Dst, Imm: x.Imm, Site: x.Site}
	for k, from := range w.into[block] {
		if w.goes(from, block) {
			y.Args = append(y.Args, x.Args[k])
		}
	}
	return y
}

func (w *writer) rewritten(x api.Inst) api.Inst {
	if w.isKnown(x.Dst) {
		return w.number(x.Dst)
	}
	y := api.Inst{Op: x.Op, Dst: x.Dst, Imm: x.Imm, Site: x.Site}
	y.Args = append(y.Args, x.Args...)
	if x.Op == api.IMark || x.Op == api.ICall {
		for _, d := range x.Dbg {
			y.Dbg = append(y.Dbg, w.shown(d))
		}
	}
	return y
}

// shown answers what is known of a variable: a number, if that is so of the value by which it is told.
func (w *writer) shown(d api.Dbg) api.Dbg {
	k := api.Dbg{Depth: d.Depth, Var: d.Var, Kind: api.DNum, B: d.B}
	if d.Kind == api.DNum {
		return k
	}
	if w.isKnown(d.Arg) {
		k.B += d.A * w.facts[d.Arg].n
		return k
	}
	k.Kind, k.Arg, k.A = d.Kind, d.Arg, d.A
	return k
}

func (w *writer) finish(out *api.Block, i int) {
	b, on := w.Blocks[i], w.onFrom(i)
	out.End = b.End
	switch {
	case b.End == api.RetVal:
		out.Arg = b.Arg
	case len(on) == 2:
		out.Arg, out.To, out.Else = b.Arg, w.place[on[0]], w.place[on[1]]
	case len(on) == 1:
		out.End, out.To = api.GoTo, w.place[on[0]]
	}
}
