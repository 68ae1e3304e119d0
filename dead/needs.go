package dead

import (
	"teasel/api"
	"teasel/code"
)

// needs finds which values of a function are needed: those that anything asks for that must be done, and those from which they are made.
type needs struct {
	spare  map[int][]int // of each value that is needed only if somebody asks for it, from which ones it is made
	needed map[int]struct{}
	next   []int // values that are needed, and for which it wasn't looked yet from which ones they are made
}

func newNeeds(f api.Fun) *needs {
	n := &needs{spare: map[int][]int{}, needed: map[int]struct{}{}}
	for _, b := range f.Blocks {
		for _, l := range [][]api.Inst{b.Phis, b.Insts} {
			for _, x := range l {
				if maySpare(x.Op) {
					n.spare[x.Dst] = x.Args
				} else {
					n.need(x.Args...)
				}
			}
		}
		if b.End == api.Branch || b.End == api.RetVal {
			n.need(b.Arg)
		}
	}
	for len(n.next) > 0 {
		last := len(n.next) - 1
		v := n.next[last]
		n.next = n.next[:last]
		n.need(n.spare[v]...)
	}
	return n
}

// maySpare tells whether all that an Op does is to make a value.
func maySpare(op byte) bool {
	return code.Pure(op) || op == api.IPhi || op == api.IParam || op == api.ITop
}

func (n *needs) need(values ...int) {
	for _, v := range values {
		if _, had := n.needed[v]; !had {
			n.needed[v] = struct{}{}
			n.next = append(n.next, v)
		}
	}
}

// stays tells whether a value is made still.
func (n *needs) stays(value int) bool {
	_, needed := n.needed[value]
	_, spare := n.spare[value]
	return needed || !spare
}
