package inst

import (
	"math"

	"teasel/api"
)

// shape is what instructions of an Op name: the first ones of A, B and C, and an Imm from least to most. Where both are 0 they name none, as none is named that must be 0.
type shape struct {
	regs  int
	least int64
	most  int64
}

// shapeOf answers an Op's shape, if there is such an Op.
func shapeOf(op byte) (shape, bool) {
	switch op {
	case api.MMark, api.MJump:
		return shape{regs: 0, most: math.MaxInt64}, true
	case api.MCall, api.MZero:
		return shape{regs: 1, most: math.MaxInt64}, true
	case api.MNum:
		return shape{regs: 1, least: math.MinInt64, most: math.MaxInt64}, true
	case api.MIn, api.MOut:
		return shape{regs: 1, most: api.MaxSlots - 1}, true
	case api.MAlloc:
		return shape{regs: 1, least: 1, most: api.MaxCells}, true
	case api.MGive:
		return shape{regs: 1, most: api.MaxParams - 1}, true
	case api.MTop, api.MFree, api.MArg, api.MPrint, api.MRead, api.MRet:
		return shape{regs: 1}, true
	case api.Neg, api.Not, api.Bang, api.MMove, api.MLen:
		return shape{regs: 2}, true
	case api.MLoad, api.MStore:
		return shape{regs: 3}, true
	}
	if op < api.Add || op > api.Ne {
		return shape{}, false
	}
	return shape{regs: 3}, true
}
