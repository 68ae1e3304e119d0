package ssa

import "teasel/api"

// uses is in which blocks a variable is set, and in which it is asked for ahead of that.
type uses struct {
	sets []int
	asks []int
}

func (u *uses) set(block int) {
	u.sets = append(u.sets, block)
}

func (u *uses) ask(block int) {
	if n := len(u.sets); n == 0 || u.sets[n-1] != block {
		u.asks = append(u.asks, block)
	}
}

// usesOf answers the uses of each variable of a function. What is known of one at a mark or call asks for it.
func usesOf(f api.Fun) []uses {
	l := make([]uses, f.Vars)
	for i, b := range f.Blocks {
		for _, x := range b.Insts {
			switch x.Op {
			case api.IGet:
				l[x.Imm].ask(i)
			case api.ISet:
				l[x.Imm].set(i)
			case api.IMark, api.ICall:
				for _, d := range x.Dbg {
					if d.Kind == api.DVar {
						l[d.Arg].ask(i)
					}
				}
			}
		}
	}
	return l
}
