package calls

import "teasel/api"

// writer writes what a function becomes. Its blocks keep their order, and what is done in place of a call stands where that was: so no phi gets its Args in another order.
type writer struct {
	code   api.Code
	fun    api.Fun
	takes  bool   // whether calls are done in place in it
	inner  []bool // which functions are done in place of a call
	stops  *stops
	made   map[int]struct{} // the values that the function makes itself
	free   int              // no lesser number of a value is free
	blocks []api.Block      // what it becomes
	open   int              // the block at the end of which it is written on
	begins []int            // of each block of the function the one with which it begins now
	ends   []int            // and the one with which it ends
}

func newWriter(c api.Code, f api.Fun, inner []bool, s *stops) *writer {
	w := &writer{code: c, fun: f, takes: isOuter(f), inner: inner, stops: s, made: map[int]struct{}{}}
	for _, b := range f.Blocks {
		for _, l := range [][]api.Inst{b.Phis, b.Insts} {
			for _, x := range l {
				w.made[x.Dst] = struct{}{}
			}
		}
	}
	return w
}

func (w *writer) function() api.Fun {
	for _, b := range w.fun.Blocks {
		w.begin()
		w.begins = append(w.begins, w.open)
		w.block(b)
		w.ends = append(w.ends, w.open)
	}
	for i, b := range w.fun.Blocks {
		end(&w.blocks[w.ends[i]], b, w.begins)
	}
	return api.Fun{Params: w.fun.Params, Vals: max(w.fun.Vals, w.free), Blocks: w.blocks}
}

// begin opens a new block.
func (w *writer) begin() {
	w.open = len(w.blocks)
	w.blocks = append(w.blocks, api.Block{})
}

func (w *writer) add(x api.Inst) {
	b := &w.blocks[w.open]
	b.Insts = append(b.Insts, x)
}

// value answers the number of a new one.
func (w *writer) value() int {
	for {
		v := w.free
		w.free++
		if _, is := w.made[v]; !is {
			return v
		}
	}
}

// block writes a block of the function itself.
func (w *writer) block(b api.Block) {
	for _, x := range b.Phis {
		w.blocks[w.open].Phis = append(w.blocks[w.open].Phis, copied(x))
	}
	for _, x := range b.Insts {
		switch {
		case x.Op == api.IParam:
			// It may stand in the first block alone, which a call ahead of it may have ended.
			w.blocks[0].Insts = append(w.blocks[0].Insts, copied(x))
		case x.Op == api.ICall && w.takes && w.inner[x.Imm]:
			w.inPlace(x)
		default:
			w.add(copied(x))
		}
	}
}

// copied answers the same instruction, in memory of its own.
func copied(x api.Inst) api.Inst {
	y := api.Inst{Op: x.Op, Dst: x.Dst, Imm: x.Imm, Site: x.Site}
	y.Args = append(y.Args, x.Args...)
	if x.Op != api.IMark && x.Op != api.ICall {
		return y
	}
	for _, d := range x.Dbg {
		if d.Kind == api.DNum {
			d.Arg, d.A = 0, 0
		}
		y.Dbg = append(y.Dbg, d)
	}
	return y
}

// end lets a block end as another one does, whose ways lead to blocks that stand elsewhere now.
func end(out *api.Block, b api.Block, places []int) {
	out.End = b.End
	switch b.End {
	case api.GoTo:
		out.To = places[b.To]
	case api.Branch:
		out.Arg, out.To, out.Else = b.Arg, places[b.To], places[b.Else]
	case api.RetVal:
		out.Arg = b.Arg
	}
}
