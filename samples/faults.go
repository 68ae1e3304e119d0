package samples

import "teasel/api"

// spoil changes one number of the code, or one list.
func (c *coder) spoil() {
	f := &c.code.Funs[c.below(len(c.code.Funs))]
	b := &f.Blocks[c.below(len(f.Blocks))]
	c.fun = f
	switch c.below(24) {
	case 0:
		c.nudge(pickOfThese(&c.dice, &c.code.Main, &f.Params, &f.Vars))
	case 1:
		f.Vals = c.below(len(f.Blocks) * 10)
	case 2:
		c.code.Stops[c.below(len(c.code.Stops))] = nil
	case 3, 4, 5:
		c.nudge(pickOfThese(&c.dice, &b.Arg, &b.To, &b.Else))
	case 6, 7:
		b.End = byte(c.below(6))
	case 8:
		b.Phis, b.Insts = b.Insts, b.Phis
	case 9, 10, 11:
		if len(b.Phis) > 0 {
			c.spoilInst(&b.Phis[c.below(len(b.Phis))])
		}
	case 12, 13:
		for i, k := range c.shuffled(len(b.Insts)) {
			b.Insts[i], b.Insts[k] = b.Insts[k], b.Insts[i]
		}
	default:
		if len(b.Insts) > 0 {
			c.spoilInst(&b.Insts[c.below(len(b.Insts))])
		}
	}
}

func pickOfThese(d *dice, l ...*int) *int {
	return l[d.below(len(l))]
}

// nudge makes a number another one, mostly one near it.
func (c *coder) nudge(n *int) {
	*n += c.below(7) - 3
	if c.once(9) {
		*n = -*n
	}
}

func (c *coder) spoilInst(x *api.Inst) {
	switch c.below(10) {
	case 0:
		x.Op = byte(c.below(50))
	case 1:
		x.Dst = c.below(c.fun.Vals+2) - 1
	case 2:
		c.nudge(&x.Dst)
	case 3:
		x.Imm += int64(c.below(7) - 3)
	case 4:
		c.nudge(&x.Site)
	case 5:
		x.Args = append(x.Args, c.below(c.fun.Vals+1))
	case 6:
		x.Args = x.Args[:len(x.Args)/2]
	case 7:
		for i := range x.Args {
			x.Args[i] = c.below(c.fun.Vals + 1)
		}
	default:
		if len(x.Dbg) > 0 {
			d := &x.Dbg[c.below(len(x.Dbg))]
			d.Kind = byte(c.below(5))
			c.nudge(pickOfThese(&c.dice, &d.Depth, &d.Var, &d.Arg))
		}
	}
}
