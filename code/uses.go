package code

import "teasel/api"

// hasUses: is each value made wherever it is used? One that is made is in range.
func (k *checker) hasUses() bool {
	for i, b := range k.Blocks {
		for _, x := range b.Phis {
			if !k.mayCome(x.Args, k.into[i]) {
				return false
			}
		}
		for at, x := range b.Insts {
			if !k.mayUse(x, place{i, at}) {
				return false
			}
		}
		if (b.End == api.Branch || b.End == api.RetVal) && !k.isMade(b.Arg, place{i, len(b.Insts)}) {
			return false
		}
	}
	return true
}

// mayCome: are the values of a phi made where each comes from?
func (k *checker) mayCome(values, from []int) bool {
	for i, v := range values {
		p, ok := k.made[v]
		if !ok || !k.dominators.Over(p.block, from[i]) {
			return false
		}
	}
	return true
}

func (k *checker) mayUse(x api.Inst, here place) bool {
	for _, v := range x.Args {
		if !k.isMade(v, here) {
			return false
		}
	}
	if x.Op != api.IMark && x.Op != api.ICall {
		return true
	}
	for _, d := range x.Dbg {
		if d.Kind == api.DVal && !k.isMade(d.Arg, here) {
			return false
		}
	}
	return true
}

// isMade: was a value made ahead in the same block, or in one that dominates this one?
func (k *checker) isMade(value int, here place) bool {
	p, ok := k.made[value]
	if p.block == here.block {
		return ok && p.at < here.at
	}
	return ok && k.dominators.Over(p.block, here.block)
}
