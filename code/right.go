package code

import (
	"teasel/api"
	"teasel/flow"
	"teasel/forest"
)

// isRight holds code against each rule of what right code is, but how much of it there may be.
func isRight(c api.Code) bool {
	if c.Main < 0 || c.Main >= len(c.Funs) || c.Funs[c.Main].Params != 0 {
		return false
	}
	for _, frames := range c.Stops {
		if len(frames) == 0 {
			return false
		}
	}
	for _, f := range c.Funs {
		k := checker{Fun: f, code: c, made: map[int]place{}}
		if !k.hasSizes() || !k.hasWays() || !k.hasShapes() || !k.hasUses() {
			return false
		}
	}
	return true
}

// place is where a value is made: a block, and the number of the instruction; a phi's is -1.
type place struct {
	block int
	at    int
}

// checker holds one function against the rules. Its methods are asked in their order: each leans on what holds by those ahead.
type checker struct {
	api.Fun
	code       api.Code
	into       [][]int
	dominators forest.Forest
	made       map[int]place
}

func within(n, least, most int) bool {
	return least <= n && n <= most
}

func (k *checker) hasSizes() bool {
	return within(k.Params, 0, api.MaxParams) && within(k.Vars, 0, api.MaxLocals) && within(k.Vals, 0, api.MaxVals) && within(len(k.Blocks), 1, api.MaxVals)
}

// hasWays: do the blocks go on as they may, and are all reached?
func (k *checker) hasWays() bool {
	for _, b := range k.Blocks {
		if !k.isEnd(b) {
			return false
		}
	}
	g := Graph(k.Fun)
	order, _ := flow.Order(g)
	if len(order) < len(k.Blocks) {
		return false
	}
	above, _ := flow.Above(g)
	k.into, _ = flow.Into(g)
	k.dominators = forest.New(order, above)
	return true
}

func (k *checker) isEnd(b api.Block) bool {
	last := len(k.Blocks) - 1
	switch b.End {
	case api.GoTo:
		return within(b.To, 1, last)
	case api.Branch:
		return within(b.To, 1, last) && within(b.Else, 1, last) && b.To != b.Else
	case api.RetVal, api.RetNone:
		return true
	}
	return false
}

// hasShapes: is each phi and each instruction of the form of its Op? It notes where values are made.
func (k *checker) hasShapes() bool {
	for i, b := range k.Blocks {
		for _, x := range b.Phis {
			if i == 0 || x.Op != api.IPhi || len(x.Args) != len(k.into[i]) || !k.makes(x.Dst, place{i, -1}) {
				return false
			}
		}
		for at, x := range b.Insts {
			if !k.isInst(x, place{i, at}) {
				return false
			}
		}
	}
	return true
}

// makes: may a value be made here? No other place may make it.
func (k *checker) makes(value int, here place) bool {
	_, twice := k.made[value]
	k.made[value] = here
	return !twice && within(value, 0, k.Vals-1)
}

func (k *checker) isInst(x api.Inst, here place) bool {
	args, makes, is := Shape(x.Op)
	if !is || x.Op == api.IPhi || !k.hasImm(x, here.block) || !k.hasSite(x) {
		return false
	}
	if x.Op == api.ICall {
		args, makes = k.code.Funs[x.Imm].Params, x.Dst != -1
	}
	if len(x.Args) != args {
		return false
	}
	if !makes {
		return x.Dst == -1
	}
	return k.makes(x.Dst, here)
}

func (k *checker) hasImm(x api.Inst, block int) bool {
	below := func(n int) bool { return 0 <= x.Imm && x.Imm < int64(n) }
	switch x.Op {
	case api.IParam:
		return block == 0 && below(k.Params)
	case api.IAlloc:
		return 1 <= x.Imm && x.Imm <= api.MaxCells
	case api.ICall:
		return below(len(k.code.Funs))
	case api.IGet, api.ISet:
		return below(k.Vars)
	}
	return true
}

// hasSite: has what needs one a place of the stops at Site, and what is known of variables the form?
func (k *checker) hasSite(x api.Inst) bool {
	tells := x.Op == api.IMark || x.Op == api.ICall
	if !tells && !Traps(x.Op) {
		return true
	}
	if !within(x.Site, 0, len(k.code.Stops)-1) {
		return false
	}
	return !tells || k.isKnown(x.Dbg, len(k.code.Stops[x.Site]))
}

func (k *checker) isKnown(l []api.Dbg, frames int) bool {
	had := map[[2]int]struct{}{}
	for _, d := range l {
		had[[2]int{d.Depth, d.Var}] = struct{}{}
		if !within(d.Depth, 0, frames-1) || !within(int(d.Kind), api.DNum, api.DVar) || d.Kind == api.DVar && !within(d.Arg, 0, k.Vars-1) {
			return false
		}
	}
	return len(had) == len(l)
}
