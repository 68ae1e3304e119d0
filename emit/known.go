package emit

import "teasel/api"

// known answers the number of a new mark, that tells what is known at a mark or a call that is written.
func (w *writer) known(x api.Inst) int {
	var l []api.Loc
	for _, d := range x.Dbg {
		if loc, is := w.loc(d); is {
			l = append(l, loc)
		}
	}
	return w.mark(x.Site, l)
}

// loc answers where a variable is found, if it can be found.
func (w *writer) loc(d api.Dbg) (api.Loc, bool) {
	out := api.Loc{Depth: d.Depth, Var: d.Var, Kind: api.LNum, B: d.B}
	if d.Kind == api.DNum {
		return out, true
	}
	k := w.kins[d.Arg]
	if n, is := k.Number(); is {
		out.B += d.A * n
		return out, true
	}
	if w.isLive(d.Arg, w.at) {
		return w.found(out, d.Arg, d.A), true
	}
	of, _ := k.Of()
	for _, v := range w.near[of] {
		if !w.isLive(v, w.at) {
			continue
		}
		if a, b, is := k.By(w.kins[v]); is {
			out.B += d.A * b
			return w.found(out, v, d.A*a), true
		}
	}
	return api.Loc{}, false
}

// found answers a location that is so many times what a value has.
func (w *writer) found(out api.Loc, v int, a int64) api.Loc {
	out.Kind, out.Arg, out.A = api.LReg, w.holder(v), a
	if out.Arg == nothing {
		out.Kind, out.Arg = api.LSlot, w.seats[v]-firstSlot
	}
	return out
}

// meet notes a value that is made. Where all that is known is live, it is told by itself.
func (w *writer) meet(v int) {
	if of, is := w.kins[v].Of(); is && !w.all {
		w.near[of] = append(w.near[of], v)
	}
}
