package code

import "teasel/api"

// Shape answers how many Args an Op has (-1: it hangs on what stands elsewhere), whether it makes a value, and whether there is such an Op.
func Shape(op byte) (int, bool, bool) {
	switch op {
	case api.IConst, api.IParam, api.IAlloc, api.ITop, api.IRead, api.IGet:
		return 0, true, true
	case api.Neg, api.Not, api.Bang, api.ICopy, api.ILen:
		return 1, true, true
	case api.ILoad:
		return 2, true, true
	case api.ICall, api.IPhi:
		return -1, true, true
	case api.IMark:
		return 0, false, true
	case api.IFree, api.IPrint, api.ISet:
		return 1, false, true
	case api.IStore:
		return 3, false, true
	}
	if isOfTwo(op) {
		return 2, true, true
	}
	return 0, false, false
}

func isOfTwo(op byte) bool {
	return api.Add <= op && op <= api.Ne
}

// Pure tells whether an Op makes a value from its Args and Imm alone, and never traps.
func Pure(op byte) bool {
	switch op {
	case api.Div, api.Rem:
		return false
	case api.Neg, api.Not, api.Bang, api.IConst, api.ICopy:
		return true
	}
	return isOfTwo(op)
}

// Traps tells whether an Op may trap.
func Traps(op byte) bool {
	switch op {
	case api.Div, api.Rem, api.ILoad, api.IStore, api.IRead:
		return true
	}
	return false
}
