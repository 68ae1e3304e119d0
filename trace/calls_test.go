package trace_test

import (
	"testing"

	"teasel/api"
	"teasel/trace"
)

// TestArguments: each by its number, whatever was done ahead.
func TestArguments(t *testing.T) {
	c := program(
		fun(0, 0, ends(with(api.IConst, 0, 1), with(api.IConst, 1, 2), with(api.IConst, 2, 3),
			with(api.ICall, 3, 1, 0, 1, 2), inst(api.IPrint, -1, 3), with(api.ICall, 4, 1, 2, 2, 0), inst(api.IPrint, -1, 4))),
		fun(3, 0, answers(6, with(api.IConst, 8, 100), with(api.ICall, 9, 2, 8), with(api.IParam, 2, 2), with(api.IParam, 0, 0), with(api.IParam, 1, 1), with(api.IParam, 7, 2),
			with(api.IConst, 3, 10), inst(api.Mul, 4, 0, 3), inst(api.Add, 5, 4, 1), inst(api.Mul, 10, 5, 3), inst(api.Add, 6, 10, 7), inst(api.IPrint, -1, 2))),
		fun(1, 0, answers(0, with(api.IParam, 0, 0), with(api.IConst, 5, 6), with(api.IConst, 6, 7))))
	wantOuts(t, c, nil, 3, 123, 1, 331)
}

func TestMostArguments(t *testing.T) {
	caller := []api.Inst{}
	callee := []api.Inst{with(api.IConst, 30, 10), with(api.IConst, 20, 0)}
	for i := range 6 {
		caller = append(caller, with(api.IConst, i, int64(i+1)))
		callee = append(callee, with(api.IParam, i, int64(i)), inst(api.Mul, 10+i, 20+i, 30), inst(api.Add, 21+i, 10+i, i))
	}
	caller = append(caller, with(api.ICall, 9, 1, 0, 1, 2, 3, 4, 5))
	c := program(fun(0, 0, answers(9, caller...)), fun(6, 0, answers(26, callee...)))
	wantRun(t, c, nil, 100, trace.Result{End: api.Halt, Exit: 123456, Steps: 29, Calls: 2})
}

// TestAnswers: RetNone answers 0; an answer may be forgotten.
func TestAnswers(t *testing.T) {
	c := program(
		fun(0, 0, answers(2, with(api.ICall, 0, 1), inst(api.IPrint, -1, 0), with(api.ICall, -1, 2), with(api.ICall, 1, 2), inst(api.IPrint, -1, 1), with(api.ICall, 2, 1))),
		fun(0, 0, ends(with(api.IConst, 0, 5), inst(api.IPrint, -1, 0))),
		fun(0, 0, answers(0, with(api.IConst, 0, 8))))
	wantOuts(t, c, nil, 5, 0, 8, 5)
	wantRun(t, program(fun(0, 0, ends())), nil, 5, trace.Result{End: api.Halt, Steps: 1, Calls: 1})
}

// TestMainMayBeAnyFunction: and may be called.
func TestMainMayBeAnyFunction(t *testing.T) {
	c := program(
		fun(1, 0, answers(0, with(api.IParam, 0, 0))),
		fun(0, 0, branch(0, 1, 2, inst(api.IRead, 0), inst(api.IPrint, -1, 0)), answers(1, with(api.ICall, 1, 1)), answers(2, with(api.ICall, 2, 0, 0))))
	c.Main = 1
	wantRun(t, c, nums(1, 1, 0, 4), 100, trace.Result{End: api.Halt, Outs: nums(1, 1, 0), Steps: 17, Calls: 4})
}

// TestEachCallHasItsOwnValues: and those of the caller are behind it as they were.
func TestEachCallHasItsOwnValues(t *testing.T) {
	// f(n): if n is 0, 1 is answered; else n times f(n - 1).
	f := fun(1, 0,
		branch(0, 1, 2, with(api.IParam, 0, 0), with(api.IConst, 1, 1)),
		answers(4, inst(api.Sub, 2, 0, 1), with(api.ICall, 3, 1, 2), inst(api.Mul, 4, 0, 3)),
		answers(1))
	c := program(fun(0, 0, answers(1, with(api.IConst, 0, 20), with(api.ICall, 1, 1, 0))), f)
	wantRun(t, c, nil, 500, trace.Result{End: api.Halt, Exit: 2432902008176640000, Steps: 3 + 20*7 + 4, Calls: 22})
}

// TestVariables: at first 0, in each call anew, and nobody else's.
func TestVariables(t *testing.T) {
	f := fun(0, 3, answers(3,
		with(api.IGet, 0, 2), inst(api.IPrint, -1, 0), with(api.IGet, 1, 0), inst(api.IPrint, -1, 1),
		with(api.IConst, 2, 9), with(api.ISet, -1, 2, 2), with(api.ISet, -1, 0, 2), with(api.IGet, 3, 2)))
	main := fun(0, 5, ends(
		with(api.IConst, 0, 4), with(api.ISet, -1, 2, 0), with(api.IGet, 1, 2), inst(api.IPrint, -1, 1), with(api.IGet, 2, 4), inst(api.IPrint, -1, 2),
		with(api.ICall, 3, 1), inst(api.IPrint, -1, 3), with(api.ICall, 4, 1), with(api.IGet, 5, 2), inst(api.IPrint, -1, 5), with(api.IGet, 6, 0), inst(api.IPrint, -1, 6),
		with(api.ISet, -1, 2, 6), inst(api.IPrint, -1, 5), with(api.IGet, 7, 2), inst(api.IPrint, -1, 7)))
	wantOuts(t, program(main, f), nil, 4, 0, 0, 0, 9, 0, 0, 4, 0, 4, 0)
}

// TestVariablesOfACallThatIsOver: nobody gets to see what they had, though another one behind them is set first.
func TestVariablesOfACallThatIsOver(t *testing.T) {
	f := fun(0, 2, ends(
		with(api.IGet, 0, 0), number(1, 9), with(api.ISet, -1, 1, 1), with(api.IGet, 2, 0), show(2), with(api.ISet, -1, 0, 1),
		at(3, inst(api.IMark, -1), isVariable(0, 0))))
	g := fun(0, 2, ends(with(api.IGet, 0, 0), number(1, 7), with(api.ISet, -1, 1, 1), at(4, inst(api.IMark, -1), isVariable(0, 0), isVariable(1, 1))))
	c := program(fun(0, 0, ends(with(api.ICall, -1, 1), with(api.ICall, -1, 1), with(api.ICall, -1, 2))), f, g)
	wantOuts(t, c, nil, 0, 0)
	wantState(t, c, nil, 3, 99, 2, frame(0, 5, has(0, 0), has(1, 7)), frame(0, 1))
}

// TestTheMostCallsThatWereOpen: at once, not in all.
func TestTheMostCallsThatWereOpen(t *testing.T) {
	leaf := fun(0, 0, ends())
	middle := fun(0, 0, ends(with(api.ICall, -1, 2), with(api.ICall, -1, 2)))
	c := program(fun(0, 0, ends(with(api.ICall, -1, 2), with(api.ICall, -1, 1), with(api.ICall, -1, 2), with(api.ICall, -1, 2))), middle, leaf)
	wantRun(t, c, nil, 100, trace.Result{End: api.Halt, Steps: 13, Calls: 3})
	wantRun(t, c, nil, 4, trace.Result{End: api.StopFuel, Steps: 4, Calls: 3})
	wantRun(t, c, nil, 3, trace.Result{End: api.StopFuel, Steps: 3, Calls: 2})
}

// TestBlocksAreComeToAgain: values that were made are made anew.
func TestBlocksAreComeToAgain(t *testing.T) {
	body := branch(2, 1, 2, with(api.IGet, 0, 0), with(api.IConst, 1, 1), inst(api.Sub, 2, 0, 1), with(api.ISet, -1, 0, 2), inst(api.IPrint, -1, 0))
	c := program(fun(0, 1, goes(1, with(api.IConst, 5, 3), with(api.ISet, -1, 0, 5)), body, answers(2)))
	wantOuts(t, c, nil, 3, 2, 1)
}
