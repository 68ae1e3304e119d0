package calls

import (
	"teasel/api"
	"teasel/code"
)

// How much there may be: of the code in which calls are done in place, of a function in which they are, and of one that is called so. Within these limits code stays far below those that there are of all code.
const (
	mostFuns        = 20
	mostCode        = 1000 // instructions and phis
	mostOuter       = 200  // instructions, phis and blocks
	mostInner       = 16   // instructions and phis
	mostInnerBlocks = 8
)

// innerOnes answers of each function whether it is done where it is called.
func innerOnes(c api.Code) []bool {
	l := make([]bool, len(c.Funs))
	if len(c.Funs) > mostFuns || code.Size(c) > mostCode {
		return l
	}
	for i, f := range c.Funs {
		l[i] = size(f) <= mostInner && len(f.Blocks) <= mostInnerBlocks && !callsAny(f) && len(answering(f)) > 0
	}
	return l
}

// isOuter tells whether calls are done in place in a function.
func isOuter(f api.Fun) bool {
	return size(f)+len(f.Blocks) <= mostOuter
}

func size(f api.Fun) int {
	return code.Size(api.Code{Funs: []api.Fun{f}})
}

func callsAny(f api.Fun) bool {
	for _, b := range f.Blocks {
		for _, x := range b.Insts {
			if x.Op == api.ICall {
				return true
			}
		}
	}
	return false
}

// answering answers the blocks that end with an answer.
func answering(f api.Fun) []int {
	var l []int
	for i, b := range f.Blocks {
		if b.End == api.RetVal || b.End == api.RetNone {
			l = append(l, i)
		}
	}
	return l
}
