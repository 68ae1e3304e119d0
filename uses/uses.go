// Package uses tells which values an instruction uses: live asks where they are needed still, alloc where they are needed no more.
package uses

import "teasel/api"

// Each tells the values that an instruction uses, one by one; with all, those by which a mark or a call knows variables, too.
func Each(x api.Inst, all bool, tell func(value int)) {
	for _, v := range x.Args {
		tell(v)
	}
	if !all || x.Op != api.IMark && x.Op != api.ICall {
		return
	}
	for _, d := range x.Dbg {
		if d.Kind == api.DVal {
			tell(d.Arg)
		}
	}
}
