package alloc

import "teasel/api"

// steps answers a function of those instructions alone by which a value is told by another one, or as a number: the numbers, and what is made of one value, or of one and a number, as layer 12 tells it.
func steps(f api.Fun) api.Fun {
	numbers := map[int]struct{}{}
	for _, b := range f.Blocks {
		for _, x := range b.Insts {
			if x.Op == api.IConst {
				numbers[x.Dst] = struct{}{}
			}
		}
	}
	var l []api.Inst
	for _, b := range f.Blocks {
		for _, x := range b.Insts {
			if isStep(x, numbers) {
				l = append(l, x)
			}
		}
	}
	return api.Fun{Blocks: []api.Block{{Insts: l}}}
}

func isStep(x api.Inst, numbers map[int]struct{}) bool {
	isNumber := func(arg int) bool {
		_, is := numbers[x.Args[arg]]
		return is
	}
	switch x.Op {
	case api.IConst, api.ICopy, api.Neg, api.Not:
		return true
	case api.Add, api.Sub, api.Mul:
		return isNumber(0) || isNumber(1)
	case api.Shl:
		return isNumber(1)
	}
	return false
}
