package reduce

import "teasel/api"

// write lets all that used a product use what stands for it, and lays the steps of sums behind those of their counters.
func (r *reducer) write() {
	r.ask()
	for i := range r.Blocks {
		b := &r.Blocks[i]
		for _, x := range b.Phis {
			r.rename(x)
		}
		var all []api.Inst
		for _, x := range b.Insts {
			r.rename(x)
			all = append(all, x)
			all = append(all, r.behind[x.Dst]...)
		}
		b.Insts = all
		if b.End == api.Branch || b.End == api.RetVal {
			b.Arg = r.stands(b.Arg)
		}
	}
}

// ask finds what anything but counting asks for.
func (r *reducer) ask() {
	for _, b := range r.Blocks {
		for _, list := range [][]api.Inst{b.Phis, b.Insts} {
			for _, x := range list {
				r.askOf(x)
			}
		}
		if b.End == api.Branch || b.End == api.RetVal {
			r.asked[b.Arg] = struct{}{}
		}
	}
}

// askOf notes what an instruction asks for; a counter's step asks for the counter, and that for the step, just to count.
func (r *reducer) askOf(x api.Inst) {
	for _, v := range x.Args {
		of, is := r.loop[v]
		into, counts := r.loop[x.Dst]
		if is && of.next == x.Dst || counts && into.next == v {
			continue
		}
		r.asked[v] = struct{}{}
	}
}

// rename lets an instruction name the values that stand.
func (r *reducer) rename(x api.Inst) {
	for k, v := range x.Args {
		x.Args[k] = r.stands(v)
	}
	for k, d := range x.Dbg {
		if d.Kind == api.DVal {
			x.Dbg[k] = r.known(d)
		}
	}
}

// known tells by what stands what a product told: by its counter, if that is asked for anyhow. For the sum there may be nobody who does, if it was a product's product.
func (r *reducer) known(d api.Dbg) api.Dbg {
	sum, is := r.instead[d.Arg]
	if !is {
		return d
	}
	d.Arg = sum
	m := r.counted[sum]
	_, asked := r.asked[m.counter]
	_, further := r.asked[r.loop[m.counter].next]
	if asked || further {
		d.Arg, d.A = m.counter, d.A*m.times
	}
	return d
}
