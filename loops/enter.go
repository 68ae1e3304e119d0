package loops

import "teasel/api"

// enter lets a loop be entered from one block: from a new one, unless there is one that goes on to its head alone. isBack tells which ones, of the blocks that go on to the head, do so from inside the loop.
func (l *Fun) enter(head int, from []int, isBack func(block int) bool) {
	var outside []int
	for _, block := range from {
		if !isBack(block) {
			outside = append(outside, block)
		}
	}
	if len(outside) == len(from) {
		return // it is no loop
	}
	if len(outside) == 1 && l.Blocks[outside[0]].End == api.GoTo {
		l.Ahead[head] = outside[0]
		return
	}
	at := len(l.Blocks)
	ahead := api.Block{Phis: l.split(head, from, isBack), End: api.GoTo, To: head}
	for _, block := range outside {
		turn(&l.Blocks[block], head, at)
	}
	l.Blocks = append(l.Blocks, ahead)
	l.Ahead[head] = at
	l.Ahead = append(l.Ahead, -1)
	l.around = append(l.around, l.around[head])
}

// split leaves to the phis of a head one Arg from outside, behind all others, and answers the phis that are needed ahead for that.
func (l *Fun) split(head int, from []int, isBack func(block int) bool) []api.Inst {
	var ahead []api.Inst
	for i, x := range l.Blocks[head].Phis {
		var inner, outer []int
		for k, block := range from {
			if isBack(block) {
				inner = append(inner, x.Args[k])
			} else {
				outer = append(outer, x.Args[k])
			}
		}
		v := outer[0]
		if !allAre(outer, v) {
			v = l.Value()
			ahead = append(ahead, api.Inst{Op: api.IPhi, Dst: v, Args: outer})
		}
		l.Blocks[head].Phis[i].Args = append(inner, v)
	}
	return ahead
}

func allAre(values []int, v int) bool {
	for _, other := range values {
		if other != v {
			return false
		}
	}
	return true
}

// turn lets a block that goes on to one go on to another one instead.
func turn(b *api.Block, from, to int) {
	if b.To == from {
		b.To = to
	} else {
		b.Else = to
	}
}

// copied answers the same function, in memory of its own.
func copied(f api.Fun) api.Fun {
	out := api.Fun{Params: f.Params, Vals: f.Vals}
	for _, b := range f.Blocks {
		out.Blocks = append(out.Blocks, api.Block{Phis: copies(b.Phis), Insts: copies(b.Insts), End: b.End})
		ended(&out.Blocks[len(out.Blocks)-1], b)
	}
	return out
}

// ended lets a block end as another one does.
func ended(out *api.Block, b api.Block) {
	switch b.End {
	case api.GoTo:
		out.To = b.To
	case api.Branch:
		out.Arg, out.To, out.Else = b.Arg, b.To, b.Else
	case api.RetVal:
		out.Arg = b.Arg
	}
}

func copies(l []api.Inst) []api.Inst {
	var out []api.Inst
	for _, x := range l {
		y := api.Inst{Op: x.Op, Dst: x.Dst, Imm: x.Imm, Site: x.Site}
		y.Args = append(y.Args, x.Args...)
		if x.Op == api.IMark || x.Op == api.ICall {
			y.Dbg = known(x.Dbg)
		}
		out = append(out, y)
	}
	return out
}

// known answers the same that is known, in memory of its own.
func known(l []api.Dbg) []api.Dbg {
	var out []api.Dbg
	for _, d := range l {
		if d.Kind == api.DNum {
			d.Arg, d.A = 0, 0
		}
		out = append(out, d)
	}
	return out
}
