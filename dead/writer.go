package dead

import (
	"teasel/api"
	"teasel/lines"
)

// writer writes what stays of a function.
type writer struct {
	api.Fun
	needs *needs
	lines *lines.Lines
}

func newWriter(f api.Fun) writer {
	n := newNeeds(f)
	return writer{Fun: f, needs: n, lines: lines.New(f, n.stays)}
}

func (w writer) function() api.Fun {
	out := api.Fun{Params: w.Params, Vals: w.Vals}
	for _, b := range w.Blocks {
		b.Phis, b.Insts = w.staying(b.Phis), w.staying(b.Insts)
		out.Blocks = append(out.Blocks, b)
	}
	return out
}

func (w writer) staying(l []api.Inst) []api.Inst {
	var out []api.Inst
	for _, x := range l {
		if x.Dst == -1 || w.needs.stays(x.Dst) {
			out = append(out, w.inst(x))
		}
	}
	return out
}

// inst answers an instruction that stays, with what can be told still.
func (w writer) inst(x api.Inst) api.Inst {
	y := api.Inst{Op: x.Op, Dst: x.Dst, Imm: x.Imm, Site: x.Site}
	y.Args = append(y.Args, x.Args...)
	if x.Op != api.IMark && x.Op != api.ICall {
		return y
	}
	for _, d := range x.Dbg {
		if k, is := w.lines.Known(d); is {
			y.Dbg = append(y.Dbg, k)
		}
	}
	return y
}
