package calls

import (
	"teasel/api"
	"teasel/code"
)

// body is a function that is done in place of a call.
type body struct {
	out    *writer
	fun    api.Fun
	call   api.Inst
	names  map[int]int // of each value of the function the one that stands for it
	places []int       // of each block of it where it stands
	backs  []int       // those of its blocks that answer
}

// inPlace does what a call would do. The first block of the function that is called goes on where the call stood; behind it is gone on in the block that answers, or, if there are several, in one behind them.
func (w *writer) inPlace(call api.Inst) {
	f := w.code.Funs[call.Imm]
	p := &body{out: w, fun: f, call: call, names: map[int]int{}, backs: answering(f)}
	p.name()
	for i, b := range f.Blocks {
		if i > 0 {
			w.begin()
		}
		p.places = append(p.places, w.open)
		p.block(b)
	}
	for i, b := range f.Blocks {
		if b.End == api.GoTo || b.End == api.Branch {
			b.Arg = p.names[b.Arg]
			end(&w.blocks[p.places[i]], b, p.places)
		}
	}
	if len(p.backs) == 1 {
		p.goOn()
	} else {
		p.meet()
	}
}

// name finds what stands for each value: for a parameter what is handed in, for the answer, if one block alone answers, what the call makes, for the others new ones.
func (p *body) name() {
	if b := p.fun.Blocks[p.backs[0]]; len(p.backs) == 1 && b.End == api.RetVal && p.call.Dst != -1 {
		p.names[b.Arg] = p.call.Dst
	}
	for _, b := range p.fun.Blocks {
		for _, l := range [][]api.Inst{b.Phis, b.Insts} {
			for _, x := range l {
				_, had := p.names[x.Dst]
				switch {
				case x.Op == api.IParam:
					p.names[x.Dst] = p.call.Args[x.Imm]
				case x.Dst != -1 && !had:
					p.names[x.Dst] = p.out.value()
				}
			}
		}
	}
}

// block writes a block where it is written on.
func (p *body) block(b api.Block) {
	out := &p.out.blocks[p.out.open]
	for _, x := range b.Phis {
		out.Phis = append(out.Phis, p.inst(x))
	}
	for _, x := range b.Insts {
		if x.Op != api.IParam {
			out.Insts = append(out.Insts, p.inst(x))
		}
	}
}

// inst answers what an instruction becomes. Behind the frames of its own stop stand those of the call's, with what is known there.
func (p *body) inst(x api.Inst) api.Inst {
	y := copied(x)
	if y.Dst != -1 {
		y.Dst = p.names[y.Dst]
	}
	for i, v := range y.Args {
		y.Args[i] = p.names[v]
	}
	for i, d := range y.Dbg {
		if d.Kind == api.DVal {
			y.Dbg[i].Arg = p.names[d.Arg]
		}
	}
	y.Site = 0
	if x.Op == api.IMark || code.Traps(x.Op) {
		y.Site = p.out.stops.of(x.Site, p.call.Site)
	}
	if x.Op == api.IMark {
		for _, d := range copied(p.call).Dbg {
			d.Depth += len(p.out.code.Stops[x.Site])
			y.Dbg = append(y.Dbg, d)
		}
	}
	return y
}

// goOn goes on in the one block that answers.
func (p *body) goOn() {
	p.out.open = p.places[p.backs[0]]
	b, dst := p.fun.Blocks[p.backs[0]], p.call.Dst
	switch {
	case dst == -1:
	case b.End == api.RetNone:
		p.out.add(api.Inst{Op: api.IConst, Dst: dst})
	case p.names[b.Arg] != dst: // it is a parameter
		p.out.add(api.Inst{Op: api.ICopy, Dst: dst, Args: []int{p.names[b.Arg]}})
	}
}

// meet goes on in a block behind all that answer.
func (p *body) meet() {
	p.out.begin()
	behind := p.out.open
	var answers []int
	for _, i := range p.backs {
		b := &p.out.blocks[p.places[i]]
		b.End, b.To = api.GoTo, behind
		if p.call.Dst != -1 {
			answers = append(answers, p.answer(i))
		}
	}
	if p.call.Dst != -1 {
		p.out.blocks[behind].Phis = []api.Inst{{Op: api.IPhi, Dst: p.call.Dst, Args: answers}}
	}
}

// answer answers the value that a block answers; where it names none, one that is 0.
func (p *body) answer(i int) int {
	b := p.fun.Blocks[i]
	if b.End == api.RetVal {
		return p.names[b.Arg]
	}
	v := p.out.value()
	out := &p.out.blocks[p.places[i]]
	out.Insts = append(out.Insts, api.Inst{Op: api.IConst, Dst: v})
	return v
}
