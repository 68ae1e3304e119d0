package trace_test

import (
	"math"
	"reflect"
	"testing"

	"teasel/api"
	"teasel/trace"
)

func has(variable int, n int64) api.Shown {
	return api.Shown{Var: variable, Has: true, N: n}
}

func frame(fn, stmt int, vars ...api.Shown) api.Frame {
	return api.Frame{Fn: fn, Stmt: stmt, Vars: vars}
}

// plain makes empty lists of nil ones.
func plain(l []api.Frame) []api.Frame {
	out := []api.Frame{}
	for _, f := range l {
		f.Vars = append([]api.Shown{}, f.Vars...)
		out = append(out, f)
	}
	return out
}

func wantState(t *testing.T, c api.Code, input []int64, k, fuel, outs int, want ...api.Frame) {
	t.Helper()
	mustBeRight(t, c)
	l, n, e := trace.State(c, input, k, fuel)
	if e != api.OK || n != outs || !reflect.DeepEqual(plain(l), plain(want)) {
		t.Errorf("State at %d = %+v %d %d, want %+v %d", k, l, n, e, want, outs)
	}
}

func wantNoState(t *testing.T, c api.Code, k, fuel int, want api.Errno) {
	t.Helper()
	l, n, e := trace.State(c, nil, k, fuel)
	if e != want || n != 0 || len(l) != 0 {
		t.Errorf("State at %d with the fuel %d = %+v %d %d, want the error %d", k, fuel, l, n, e, want)
	}
}

func isNumber(variable int, b int64) api.Dbg {
	return api.Dbg{Var: variable, Kind: api.DNum, B: b}
}

func isValue(variable, value int, a, b int64) api.Dbg {
	return api.Dbg{Var: variable, Kind: api.DVal, Arg: value, A: a, B: b}
}

func isVariable(variable, arg int) api.Dbg {
	return api.Dbg{Var: variable, Kind: api.DVar, Arg: arg}
}

func deeper(depth int, d api.Dbg) api.Dbg {
	d.Depth = depth
	return d
}

// TestWhatIsKnown: of each kind, with the fields that the others need, which count for nothing.
func TestWhatIsKnown(t *testing.T) {
	noisy := func(d api.Dbg, arg int, a, b int64) api.Dbg {
		d.Arg, d.A, d.B = arg, a, b
		return d
	}
	mark := at(3, inst(api.IMark, -1),
		isVariable(9, 1), isVariable(4, 3), isValue(7, 0, 3, 1), isNumber(2, -5), isValue(0, 1, 2, math.MaxInt64), isValue(5, 0, 0, 6), isValue(8, 0, 1, 0), isNumber(1, 0),
		noisy(isNumber(10, 0), 12345, 7, 8), noisy(isVariable(11, 0), 1, 7, 8))
	c := straight(number(0, 5), number(1, 1<<62), with(api.ISet, -1, 1, 0), mark)
	wantState(t, c, nil, 1, 4, 0, frame(0, 4,
		has(0, -1), has(1, 0), has(2, -5), has(4, 0), has(5, 6), has(7, 16), has(8, 5), has(9, 5), has(10, 8), has(11, 5)))
	wantState(t, straight(number(0, math.MinInt64), at(0, inst(api.IMark, -1), isValue(0, 0, -1, -1))), nil, 1, 9, 0, frame(0, 1, has(0, math.MaxInt64)))
	wantState(t, straight(inst(api.IMark, -1)), nil, 1, 1, 0, frame(0, 1))
}

// TestVariablesOfNumbersThatThereAreNot: a Dbg's Var is any number; they rise.
func TestVariablesOfNumbersThatThereAreNot(t *testing.T) {
	mark := at(0, inst(api.IMark, -1), isNumber(math.MaxInt, 1), isNumber(-3, 2), isNumber(math.MinInt, 3), isNumber(500, 4))
	wantState(t, straight(mark), nil, 1, 9, 0, frame(0, 1, has(math.MinInt, 3), has(-3, 2), has(500, 4), has(math.MaxInt, 1)))
}

// TestStopsOfSeveralFrames: each frame has what is known at its depth.
func TestStopsOfSeveralFrames(t *testing.T) {
	mark := at(1, inst(api.IMark, -1), deeper(2, isNumber(3, 33)), isNumber(1, 11), deeper(2, isNumber(1, 31)), isNumber(0, 10), deeper(2, isVariable(2, 0)))
	c := straight(number(0, 8), with(api.ISet, -1, 0, 0), mark)
	c.Stops[1] = []api.Spot{{Fn: 4, Stmt: 7}, {Fn: -2, Stmt: 0}, {Fn: 5, Stmt: -9}, {Fn: 4, Stmt: 7}}
	wantState(t, c, nil, 1, 9, 0, frame(4, 7, has(0, 10), has(1, 11)), frame(-2, 0), frame(5, -9, has(1, 31), has(2, 8), has(3, 33)), frame(4, 7))
}

// TestStatesOfCalls: of outer calls the frames are those of the call at which they are, with what their own values and variables are.
func TestStatesOfCalls(t *testing.T) {
	f := fun(1, 2, answers(4,
		at(0, inst(api.IMark, -1), isVariable(0, 1)), with(api.IParam, 0, 0), with(api.ISet, -1, 1, 0), number(3, 70), at(1, inst(api.IMark, -1), isVariable(0, 1), isValue(1, 3, 1, 1)),
		show(0), at(2, with(api.ICall, 4, 2), isVariable(5, 1), isVariable(6, 0), isValue(7, 3, 2, 0)), at(3, inst(api.IMark, -1), isValue(0, 4, 1, 0))))
	g := fun(0, 1, answers(0, number(0, 1), with(api.ISet, -1, 0, 0), number(1, 2), number(2, 3), at(4, inst(api.IMark, -1), isVariable(0, 0), isValue(1, 2, 1, 0))))
	main := fun(0, 3, ends(number(0, 5), with(api.ISet, -1, 2, 0),
		at(5, with(api.ICall, 1, 1, 0), isVariable(0, 0), isVariable(1, 2), deeper(1, isValue(0, 0, 10, 0))),
		at(6, with(api.ICall, -1, 1, 1)), at(7, inst(api.IMark, -1), isValue(3, 1, 1, 0))))
	c := program(main, f, g)
	c.Stops[5] = []api.Spot{{Fn: 0, Stmt: 50}, {Fn: 0, Stmt: 51}}
	c.Stops[2] = []api.Spot{{Fn: 1, Stmt: 20}}
	outer := []api.Frame{frame(0, 50, has(0, 0), has(1, 5)), frame(0, 51, has(0, 50))}
	with := func(l ...api.Frame) []api.Frame { return append(l, outer...) }
	wantState(t, c, nil, 1, 100, 0, with(frame(0, 1, has(0, 0)))...)
	wantState(t, c, nil, 2, 100, 0, with(frame(0, 2, has(0, 5), has(1, 71)))...)
	wantState(t, c, nil, 3, 100, 1, with(frame(0, 5, has(0, 1), has(1, 3)), frame(1, 20, has(5, 5), has(6, 0), has(7, 140)))...)
	wantState(t, c, nil, 4, 100, 1, with(frame(0, 4, has(0, 1)))...)
	outer = []api.Frame{frame(0, 7)}
	wantState(t, c, nil, 5, 100, 1, with(frame(0, 1, has(0, 0)))...)
	wantState(t, c, nil, 7, 100, 2, with(frame(0, 5, has(0, 1), has(1, 3)), frame(1, 20, has(5, 1), has(6, 0), has(7, 140)))...)
	wantState(t, c, nil, 9, 100, 2, frame(0, 8, has(3, 1)))
	wantNoState(t, c, 10, 100, api.ErrEnd)
}

// TestVariablesThatWereNeverSet: they are 0 in an outer call too, whatever the inner ones have.
func TestVariablesThatWereNeverSet(t *testing.T) {
	known := []api.Dbg{isVariable(0, 0), isVariable(1, 1), isVariable(2, 2)}
	f := fun(2, 3, ends(at(1, inst(api.IMark, -1), known...), number(0, 7), with(api.ISet, -1, 0, 0), with(api.ISet, -1, 1, 0), with(api.ISet, -1, 2, 0), at(2, inst(api.IMark, -1), known...)))
	main := fun(0, 3, goes(1, number(0, 6), at(3, with(api.ICall, -1, 1, 0, 0), known...), at(3, with(api.ICall, -1, 1, 0, 0), known...)), ends(with(api.ISet, -1, 2, 0)))
	c := program(main, f)
	none := []api.Shown{has(0, 0), has(1, 0), has(2, 0)}
	all := []api.Shown{has(0, 7), has(1, 7), has(2, 7)}
	for k, vars := range [][]api.Shown{none, all, none, all} {
		wantState(t, c, nil, k+1, 100, 0, frame(0, 2+k%2, vars...), frame(0, 4, none...))
	}
}

// TestMarksInLoops: a mark counts each time that it is done.
func TestMarksInLoops(t *testing.T) {
	loop := branch(3, 1, 2, at(1, inst(api.IMark, -1), isValue(0, 2, 1, 0)), show(2), inst(api.Sub, 3, 2, 1))
	loop.Phis = []api.Inst{phi(2, 0, 3)}
	c := program(fun(0, 0, goes(1, number(0, 3), number(1, 1)), loop, ends(at(2, inst(api.IMark, -1), isValue(1, 3, 1, 0)))))
	for k, n := range []int64{3, 2, 1} {
		wantState(t, c, nil, k+1, 100, k, frame(0, 2, has(0, n)))
	}
	wantState(t, c, nil, 4, 100, 3, frame(0, 3, has(1, 0)))
	wantNoState(t, c, 5, 100, api.ErrEnd)
}

// TestFuelOfStates: the mark's own step must be left.
func TestFuelOfStates(t *testing.T) {
	c := straight(number(0, 1), inst(api.IMark, -1), number(1, 2), at(1, inst(api.IMark, -1)))
	for fuel, first := range []api.Errno{api.ErrEnd, api.ErrEnd, api.OK, api.OK, api.OK} {
		if first == api.OK {
			wantState(t, c, nil, 1, fuel, 0, frame(0, 1))
		} else {
			wantNoState(t, c, 1, fuel, api.ErrEnd)
		}
		if fuel < 4 {
			wantNoState(t, c, 2, fuel, api.ErrEnd)
		}
	}
	wantState(t, c, nil, 2, 4, 0, frame(0, 2))
	wantState(t, c, nil, 2, api.MaxFuel, 0, frame(0, 2))
	wantNoState(t, c, 3, api.MaxFuel, api.ErrEnd)
}

// TestStatesAheadOfAnEnd: how the run ends behind the mark counts for nothing.
func TestStatesAheadOfAnEnd(t *testing.T) {
	c := straight(inst(api.IMark, -1), number(0, 4), show(0), at(1, inst(api.IMark, -1)), inst(api.IFree, -1, 0), inst(api.IMark, -1))
	wantState(t, c, nil, 1, 99, 0, frame(0, 1))
	wantState(t, c, nil, 2, 99, 1, frame(0, 2))
	wantNoState(t, c, 3, 99, api.ErrEnd)
}

func TestErrorsOfState(t *testing.T) {
	right := straight(inst(api.IMark, -1))
	for _, k := range []int{0, -1, math.MinInt} {
		wantNoState(t, right, k, 10, api.ErrArg)
		wantNoState(t, api.Code{}, k, 10, api.ErrArg)
		wantNoState(t, right, k, -1, api.ErrArg)
	}
	for _, fuel := range []int{-1, api.MaxFuel + 1, math.MinInt, math.MaxInt} {
		wantNoState(t, right, 1, fuel, api.ErrArg)
		wantNoState(t, api.Code{}, 1, fuel, api.ErrArg)
	}
	wantNoState(t, api.Code{}, 1, 10, api.ErrForm)
	wantNoState(t, api.Code{}, math.MaxInt, 0, api.ErrForm)
	wantNoState(t, right, 2, 10, api.ErrEnd)
	wantNoState(t, right, math.MaxInt, 10, api.ErrEnd)
	wantNoState(t, right, math.MaxInt, api.MaxFuel, api.ErrEnd)
	many := make([]api.Inst, api.MaxCode+1)
	for i := range many {
		many[i] = inst(api.IMark, -1)
	}
	wantNoState(t, straight(many...), 1, 10, api.ErrLimit)
	wantState(t, straight(many[1:]...), nil, api.MaxCode, api.MaxFuel, 0, frame(0, 1))
}
