package code

import "teasel/api"

// Copy answers the same code, in memory of its own.
func Copy(c api.Code) api.Code {
	c.Funs = each(c.Funs, copyFun)
	c.Stops = each(c.Stops, copyOf[api.Spot])
	return c
}

func copyFun(f api.Fun) api.Fun {
	f.Blocks = each(f.Blocks, copyBlock)
	return f
}

func copyBlock(b api.Block) api.Block {
	b.Phis = each(b.Phis, copyInst)
	b.Insts = each(b.Insts, copyInst)
	return b
}

func copyInst(x api.Inst) api.Inst {
	x.Args = copyOf(x.Args)
	x.Dbg = copyOf(x.Dbg)
	return x
}

func copyOf[T any](l []T) []T {
	return each(l, func(x T) T { return x })
}

// each answers what is made of each item of a list; nil of nil, so that nobody can tell the copy from what it was made of.
func each[T any](l []T, of func(x T) T) []T {
	if l == nil {
		return nil
	}
	out := make([]T, len(l))
	for i, x := range l {
		out[i] = of(x)
	}
	return out
}
