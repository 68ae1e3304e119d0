package rules

import (
	"testing"

	"teasel/api"
)

func TestLimits(t *testing.T) {
	for name, pair := range map[string][2]int{
		"MaxSource": {api.MaxSource, 20000}, "MaxName": {api.MaxName, 12}, "MaxNest": {api.MaxNest, 200},
		"MaxLocals": {api.MaxLocals, 255}, "MaxParams": {api.MaxParams, 6}, "MaxCells": {api.MaxCells, 256},
		"MaxCalls": {api.MaxCalls, 100}, "MaxHeap": {api.MaxHeap, 4096}, "MaxCode": {api.MaxCode, 40000},
		"MaxWords": {api.MaxWords, 262144}, "MaxVals": {api.MaxVals, 60000}, "MaxFuel": {api.MaxFuel, 4194304},
		"Regs": {api.Regs, 16}, "MaxSlots": {api.MaxSlots, 60000}, "MaxKeep": {api.MaxKeep, 64},
	} {
		if pair[0] != pair[1] {
			t.Errorf("%s is %d, must be %d", name, pair[0], pair[1])
		}
	}
}

// TestNumbers: what the document counts up stands in api by the numbers that it says, from the first one on.
func TestNumbers(t *testing.T) {
	errnos := []api.Errno{api.OK, api.ErrArg, api.ErrLong, api.ErrForm, api.ErrText, api.ErrDeep, api.ErrName, api.ErrTwice, api.ErrType, api.ErrCount, api.ErrInit, api.ErrReach, api.ErrReturn, api.ErrMain, api.ErrNone, api.ErrLimit, api.ErrEnd, api.ErrRange}
	inOrder(t, "errors", 0, errnos)
	inOrder(t, "tokens", 0, []int{api.TokEnd, api.TokName, api.TokWord, api.TokNum, api.TokSign})
	inOrder(t, "expressions", 1, []int{api.ENum, api.EBool, api.EVar, api.EElem, api.ECall, api.ERead, api.ELen, api.EUn, api.EBin})
	inOrder(t, "statements", 1, []int{api.SLet, api.SSet, api.SPut, api.SIf, api.SWhile, api.SReturn, api.SPrint, api.SCall})
	inOrder(t, "types", 0, []int{api.TNone, api.TInt, api.TBool, api.TArr})
	inOrder(t, "operations", 1, []int{api.Add, api.Sub, api.Mul, api.Div, api.Rem, api.And, api.Or, api.Xor, api.Shl, api.Shr, api.Lt, api.Le, api.Gt, api.Ge, api.Eq, api.Ne, api.LAnd, api.LOr, api.Neg, api.Not, api.Bang})
	inOrder(t, "ends", 1, []int{api.Halt, api.TrapZero, api.TrapCell, api.TrapIn, api.StopFuel, api.StopCall, api.StopHeap, api.Wrong})
}

func inOrder[N ~int](t *testing.T, what string, first int, l []N) {
	t.Helper()
	for i, n := range l {
		if int(n) != first+i {
			t.Errorf("%s: %d stands where %d must", what, n, first+i)
		}
	}
}
