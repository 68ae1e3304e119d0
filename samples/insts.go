package samples

import "teasel/api"

// block fills a block; the first one begins with a number, so that there is a value for all that follows.
func (c *coder) block(i int) {
	b := &c.fun.Blocks[i]
	if i > 0 {
		for range c.below(3) {
			b.Phis = append(b.Phis, api.Inst{Op: api.IPhi, Dst: c.make(api.IPhi, i, -1)})
		}
	} else {
		b.Insts = append(b.Insts, c.inst(api.IConst, 0, 0))
		for p := range c.fun.Params {
			x := c.inst(api.IParam, 0, len(b.Insts))
			x.Imm = int64(p)
			b.Insts = append(b.Insts, x)
		}
	}
	for range c.below(7) {
		b.Insts = append(b.Insts, c.inst(c.op(i), i, len(b.Insts)))
	}
	if c.turns {
		c.steps(i)
	}
	if b.End == api.Branch && (c.wanders || c.turns && !c.once(4) || (c.few || c.calls) && c.once(2)) {
		read := c.inst(api.IRead, i, len(b.Insts))
		b.Insts = append(b.Insts, read)
		b.Arg = read.Dst
	} else if b.End == api.Branch || b.End == api.RetVal {
		b.Arg = c.value(i, len(b.Insts), api.Lt+byte(c.below(6)))
	}
}

// steps lets a block that goes back make steps for most phis there, by numbers, most times in the order in which they count.
func (c *coder) steps(i int) {
	b := &c.fun.Blocks[i]
	for _, to := range []int{b.To, b.Else} {
		if to == 0 || !c.above[to][i] {
			continue
		}
		for _, x := range c.fun.Blocks[to].Phis {
			if c.once(4) {
				continue
			}
			at := len(b.Insts)
			y := api.Inst{Op: byte(pickOf(&c.dice, api.Add, api.Add, api.Sub)), Args: []int{x.Dst, c.value(i, at, api.IConst)}}
			if c.once(5) || y.Op == api.Add && c.once(2) {
				y.Args[0], y.Args[1] = y.Args[1], y.Args[0]
			}
			y.Dst = c.make(y.Op, i, at)
			b.Insts = append(b.Insts, y)
		}
	}
}

// op answers one that may stand in a block; those of arrays mostly where there is one.
func (c *coder) op(block int) byte {
	switch {
	case c.wanders:
		return c.busy()
	case c.few:
		return c.plain()
	case c.calls:
		return c.calling(block)
	case c.turns:
		return c.turning(block)
	}
	return c.any(block)
}

// turning answers mostly what is made of phis and numbers, and what shows that.
func (c *coder) turning(block int) byte {
	if c.once(6) {
		return c.any(block)
	}
	return byte(pickOf(&c.dice, api.Mul, api.Mul, api.Mul, api.Shl, api.Shl, api.Add, api.Sub, api.IConst, api.IConst, api.Neg, api.IMark, api.IMark, api.IPrint))
}

// calling answers calls more often than anything else; in a leaf none. Parameters are asked for behind calls, too.
func (c *coder) calling(block int) byte {
	op := c.any(block)
	switch {
	case block == 0 && c.fun.Params > 0 && c.once(6):
		return api.IParam
	case c.leaf && op == api.ICall:
		return api.Add
	case !c.leaf && c.once(4):
		return api.ICall
	}
	return op
}

// any answers one of all there are.
func (c *coder) any(block int) byte {
	switch c.below(16) {
	case 0, 1, 2:
		return api.IMark
	case 3, 4:
		return api.IConst
	case 5:
		return api.Neg + byte(c.below(3))
	case 6:
		return api.IPrint
	case 7:
		return byte(pickOf(&c.dice, api.ICopy, api.IRead, api.ITop, api.IAlloc))
	case 8:
		if c.has(block, api.ITop) && c.once(2) {
			return api.IFree
		}
		return api.ICall
	case 9, 10:
		if c.has(block, api.IAlloc) || c.once(20) {
			return byte(pickOf(&c.dice, api.ILoad, api.IStore, api.ILen))
		}
	case 11, 12:
		if c.fun.Vars > 0 {
			return byte(pickOf(&c.dice, api.IGet, api.ISet))
		}
	}
	return api.Add + byte(c.below(16))
}

// busy answers mostly those of variables, and those that tell what they have.
func (c *coder) busy() byte {
	if c.fun.Vars > 0 && c.once(2) {
		return byte(pickOf(&c.dice, api.IGet, api.ISet))
	}
	if c.once(12) {
		return api.ICall
	}
	return byte(pickOf(&c.dice, api.IMark, api.IMark, api.IPrint, api.IConst, api.IConst, api.Add))
}

// plain answers one of a few, most of which make a value from others.
func (c *coder) plain() byte {
	if c.once(3) {
		return byte(pickOf(&c.dice, api.IMark, api.IMark, api.IPrint, api.IConst, api.IConst, api.ICopy, api.Div, api.Rem))
	}
	if c.once(30) {
		return byte(pickOf(&c.dice, api.IRead, api.ICall))
	}
	return byte(pickOf(&c.dice, api.Add, api.Add, api.Mul, api.Sub, api.Xor, api.Lt, api.Eq, api.Neg, api.Bang))
}

func pickOf(d *dice, l ...int64) int64 {
	return l[d.below(len(l))]
}

// inst answers an instruction of an Op, with values that are made ahead of it.
func (c *coder) inst(op byte, block, at int) api.Inst {
	x := api.Inst{Op: op, Dst: -1, Site: c.below(len(c.code.Stops))}
	switch op {
	case api.IConst:
		if c.few {
			x.Imm = pickOf(&c.dice, 0, 1, 1, 2)
		} else if c.turns {
			x.Imm = pickOf(&c.dice, 1, 1, 2, 3, 12, -1, -7, 0, 62, 63, 64, 65, -64, 1<<62+3, -1<<63)
		} else {
			x.Imm = pickOf(&c.dice, 0, 0, 1, 1, 2, 3, 4, 7, 12, 63, 64, -1, -2, 1<<32, 1<<62, -1<<63)
		}
	case api.IAlloc:
		x.Imm = pickOf(&c.dice, 1, 2, 3, 4, 8, 256)
	case api.IGet, api.ISet:
		x.Imm = int64(c.below(c.fun.Vars))
	case api.ICall:
		x.Imm = int64(c.called())
	case api.IParam:
		if c.calls {
			x.Imm = int64(c.below(c.fun.Params))
		}
	}
	for _, kind := range c.kinds(x) {
		x.Args = append(x.Args, c.value(block, at, kind))
	}
	if op == api.IMark || op == api.ICall {
		x.Dbg = c.known(x.Site, block, at)
	}
	switch op {
	case api.IStore, api.IFree, api.IPrint, api.IMark, api.ISet:
		return x
	case api.ICall:
		if c.once(3) {
			return x
		}
	}
	x.Dst = c.make(op, block, at)
	return x
}

// called answers a function, a small one mostly, where there are such.
func (c *coder) called() int {
	first := 0
	if c.calls && !c.once(8) {
		first = c.small
	}
	return first + c.below(len(c.code.Funs)-first)
}

// kinds answers for each Arg of an instruction by what it is best made; 0: by anything.
func (c *coder) kinds(x api.Inst) []byte {
	switch x.Op {
	case api.IConst, api.IParam, api.IAlloc, api.ITop, api.IRead, api.IMark, api.IGet:
		return nil
	case api.Neg, api.Not, api.Bang, api.ICopy, api.IPrint, api.ISet:
		return []byte{0}
	case api.ILen:
		return []byte{api.IAlloc}
	case api.ILoad:
		return []byte{api.IAlloc, api.IConst}
	case api.IStore:
		return []byte{api.IAlloc, api.IConst, 0}
	case api.IFree:
		return []byte{api.ITop}
	case api.ICall:
		return make([]byte, c.code.Funs[x.Imm].Params)
	}
	if c.turns {
		return c.productOf(x.Op)
	}
	return []byte{0, byte(pickOf(&c.dice, 0, 0, 0, api.IConst))}
}

// productOf answers by what the Args of an operation are made where code turns round: mostly a phi, or what was made of one, and a number.
func (c *coder) productOf(op byte) []byte {
	l := []byte{byte(pickOf(&c.dice, api.IPhi, api.IPhi, api.IPhi, api.Mul, api.Shl, 0)), byte(pickOf(&c.dice, api.IConst, api.IConst, api.IConst, 0))}
	if c.once(3) && (op != api.Shl || c.once(2)) {
		l[0], l[1] = l[1], l[0]
	}
	return l
}

// known answers what is known of some variables of the frames of a stop.
func (c *coder) known(site, block, at int) []api.Dbg {
	var l []api.Dbg
	for depth := range c.code.Stops[site] {
		for v := range 4 {
			if !c.once(3) {
				continue
			}
			d := api.Dbg{Depth: depth, Var: v, Kind: api.DNum, B: int64(c.below(9))}
			if c.once(2) {
				d.Kind, d.Arg, d.A = api.DVal, c.value(block, at, 0), pickOf(&c.dice, 1, 1, 1, 4, -1)
			} else if c.fun.Vars > 0 && c.once(2) {
				d.Kind, d.Arg = api.DVar, c.below(c.fun.Vars)
			}
			l = append(l, d)
		}
	}
	for v := range c.fun.Vars {
		if c.wanders && c.once(2) {
			l = append(l, api.Dbg{Var: 10 + v, Kind: api.DVar, Arg: v})
		}
	}
	for i, k := range c.shuffled(len(l)) {
		l[i], l[k] = l[k], l[i]
	}
	return l
}
