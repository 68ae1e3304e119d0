package number

import "teasel/api"

// function answers the function without what another value stands for.
func (l *finder) function() api.Fun {
	f := api.Fun{Params: l.Params, Vals: l.Vals, Blocks: make([]api.Block, len(l.Blocks))}
	for i, b := range l.Blocks {
		out := &f.Blocks[i]
		*out = api.Block{Phis: l.standing(b.Phis), Insts: l.standing(b.Insts), End: b.End, To: b.To, Else: b.Else}
		if b.End == api.Branch || b.End == api.RetVal {
			out.Arg = l.stands(b.Arg)
		}
	}
	return f
}

// standing answers the instructions that stand, with the values that stand.
func (l *finder) standing(list []api.Inst) []api.Inst {
	var out []api.Inst
	for _, x := range list {
		if x.Dst == -1 || l.instead[x.Dst] == x.Dst {
			out = append(out, l.rewritten(x))
		}
	}
	return out
}

func (l *finder) rewritten(x api.Inst) api.Inst {
	y := api.Inst{Op: x.Op, Dst: x.Dst, Imm: x.Imm, Site: x.Site}
	for _, v := range x.Args {
		y.Args = append(y.Args, l.stands(v))
	}
	if x.Op != api.IMark && x.Op != api.ICall {
		return y
	}
	for _, d := range x.Dbg {
		k := api.Dbg{Depth: d.Depth, Var: d.Var, Kind: d.Kind, B: d.B}
		if d.Kind == api.DVal {
			k.Arg, k.A = l.stands(d.Arg), d.A
		}
		y.Dbg = append(y.Dbg, k)
	}
	return y
}
