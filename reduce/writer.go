package reduce

import "teasel/api"

// write lets all that used a product use what stands for it, and lays the steps of sums behind those of their counters.
func (r *reducer) write() {
	for i := range r.Blocks {
		b := &r.Blocks[i]
		for _, x := range b.Phis {
			r.rename(x)
		}
		var all []api.Inst
		for _, x := range b.Insts {
			r.rename(x)
			all = append(all, x)
			all = append(all, r.behind[x.Dst]...)
		}
		b.Insts = all
		if b.End == api.Branch || b.End == api.RetVal {
			b.Arg = r.stands(b.Arg)
		}
	}
}

// rename lets an instruction name the values that stand.
func (r *reducer) rename(x api.Inst) {
	for k, v := range x.Args {
		x.Args[k] = r.stands(v)
	}
	for k, d := range x.Dbg {
		if d.Kind == api.DVal {
			x.Dbg[k].Arg = r.stands(d.Arg)
		}
	}
}
