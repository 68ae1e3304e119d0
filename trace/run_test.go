package trace_test

import (
	"math"
	"reflect"
	"slices"
	"testing"

	"teasel/api"
	"teasel/code"
	"teasel/source"
	"teasel/trace"
)

func nums(l ...int64) []int64 {
	return l
}

// inst is an instruction at the stop 0.
func inst(op byte, dst int, args ...int) api.Inst {
	return api.Inst{Op: op, Dst: dst, Args: args}
}

// with is an instruction with an Imm.
func with(op byte, dst int, imm int64, args ...int) api.Inst {
	return api.Inst{Op: op, Dst: dst, Args: args, Imm: imm}
}

// at is an instruction at a stop.
func at(stop int, x api.Inst, known ...api.Dbg) api.Inst {
	x.Site, x.Dbg = stop, known
	return x
}

func answers(value int, insts ...api.Inst) api.Block {
	return api.Block{Insts: insts, End: api.RetVal, Arg: value}
}

func ends(insts ...api.Inst) api.Block {
	return api.Block{Insts: insts, End: api.RetNone}
}

func goes(to int, insts ...api.Inst) api.Block {
	return api.Block{Insts: insts, End: api.GoTo, To: to}
}

func branch(arg, to, other int, insts ...api.Inst) api.Block {
	return api.Block{Insts: insts, End: api.Branch, Arg: arg, To: to, Else: other}
}

func phi(dst int, args ...int) api.Inst {
	return api.Inst{Op: api.IPhi, Dst: dst, Args: args}
}

// fun is a function with more values than it makes.
func fun(params, vars int, blocks ...api.Block) api.Fun {
	return api.Fun{Params: params, Vars: vars, Vals: 40, Blocks: blocks}
}

// program is code whose first function is Main, with 8 stops, each of one frame: of the function 0 at the statement 1, and so on.
func program(funs ...api.Fun) api.Code {
	c := api.Code{Funs: funs}
	for n := range 8 {
		c.Stops = append(c.Stops, []api.Spot{{Stmt: n + 1}})
	}
	return c
}

// straight is code of one block.
func straight(insts ...api.Inst) api.Code {
	return program(fun(0, 5, ends(insts...)))
}

func mustBeRight(t *testing.T, c api.Code) {
	t.Helper()
	if e := code.Check(c); e != api.OK {
		t.Fatalf("the code isn't right: %d, %+v", e, c)
	}
}

// plainResult makes an empty list of a nil one.
func plainResult(r trace.Result) trace.Result {
	r.Outs = append([]int64{}, r.Outs...)
	return r
}

func wantRun(t *testing.T, c api.Code, input []int64, fuel int, want trace.Result) {
	t.Helper()
	mustBeRight(t, c)
	r, e := trace.Run(c, input, fuel)
	if e != api.OK || !reflect.DeepEqual(plainResult(r), plainResult(want)) {
		t.Errorf("Run answers %+v %d, want %+v", r, e, want)
	}
}

// wantEnd is of a run with fuel enough: how it ends, what it prints.
func wantEnd(t *testing.T, c api.Code, input []int64, end byte, stop int, outs ...int64) {
	t.Helper()
	mustBeRight(t, c)
	r, e := trace.Run(c, input, 5000)
	if e != api.OK || r.End != end || r.Stop != stop || r.Exit != 0 || !slices.Equal(r.Outs, outs) {
		t.Errorf("Run answers %+v %d, want the end %d at %d, %v", r, e, end, stop, outs)
	}
}

func wantOuts(t *testing.T, c api.Code, input []int64, outs ...int64) {
	t.Helper()
	wantEnd(t, c, input, api.Halt, 0, outs...)
}

func TestExampleOfTheChapter(t *testing.T) {
	b := answers(0,
		with(api.IConst, 0, 7),
		at(0, inst(api.IMark, -1), api.Dbg{Var: 2, Kind: api.DVal, A: 3, B: 1}),
		inst(api.IPrint, -1, 0))
	c := api.Code{Funs: []api.Fun{{Vals: 1, Blocks: []api.Block{b}}}, Stops: [][]api.Spot{{{Stmt: 1}}}}
	wantRun(t, c, nil, 4, trace.Result{End: api.Halt, Exit: 7, Outs: nums(7), Marks: 1, Steps: 4, Calls: 1})
	wantState(t, c, nil, 1, 4, 0, frame(0, 1, has(2, 22)))
}

// TestFuel: a step is taken ahead of each instruction, and of each block's end; phis take none.
func TestFuel(t *testing.T) {
	c := program(fun(0, 0,
		goes(1, with(api.IConst, 0, 3), inst(api.IPrint, -1, 0)),
		api.Block{Phis: []api.Inst{phi(1, 0), phi(2, 0)}, Insts: []api.Inst{inst(api.IMark, -1), with(api.ICall, 3, 1, 2), inst(api.IPrint, -1, 3)}, End: api.RetVal, Arg: 3},
	), fun(1, 0, answers(0, with(api.IParam, 0, 0))))
	stops := []trace.Result{
		{Calls: 1},                                       // ahead of the number
		{Calls: 1, Steps: 1},                             // ahead of the print
		{Calls: 1, Steps: 2, Outs: nums(3)},              // ahead of the end of the block
		{Calls: 1, Steps: 3, Outs: nums(3)},              // ahead of the mark
		{Calls: 1, Steps: 4, Outs: nums(3), Marks: 1},    // ahead of the call
		{Calls: 2, Steps: 5, Outs: nums(3), Marks: 1},    // in the call
		{Calls: 2, Steps: 6, Outs: nums(3), Marks: 1},    // ahead of its end
		{Calls: 2, Steps: 7, Outs: nums(3), Marks: 1},    // behind the call
		{Calls: 2, Steps: 8, Outs: nums(3, 3), Marks: 1}, // ahead of the last end
	}
	for fuel, want := range stops {
		want.End = api.StopFuel
		wantRun(t, c, nil, fuel, want)
	}
	for _, fuel := range []int{9, 10, 1000, api.MaxFuel} {
		wantRun(t, c, nil, fuel, trace.Result{End: api.Halt, Exit: 3, Calls: 2, Steps: 9, Outs: nums(3, 3), Marks: 1})
	}
}

func TestRunsWithoutAnEnd(t *testing.T) {
	c := program(fun(0, 0, goes(1), goes(1)))
	wantRun(t, c, nil, api.MaxFuel, trace.Result{End: api.StopFuel, Steps: api.MaxFuel, Calls: 1})
	c = program(fun(0, 0, ends(with(api.ICall, -1, 0))))
	wantRun(t, c, nil, 1000, trace.Result{End: api.StopFuel, Steps: 1000, Calls: 1001})
}

func TestErrorsOfRun(t *testing.T) {
	right := program(fun(0, 0, ends()))
	long := program(fun(0, 0, ends(slices.Repeat([]api.Inst{inst(api.IMark, -1)}, api.MaxCode+1)...)))
	for _, c := range []struct {
		code api.Code
		fuel int
		e    api.Errno
	}{
		{right, -1, api.ErrArg}, {right, math.MinInt, api.ErrArg}, {right, api.MaxFuel + 1, api.ErrArg}, {right, math.MaxInt, api.ErrArg},
		{api.Code{}, -1, api.ErrArg}, {long, api.MaxFuel + 1, api.ErrArg},
		{api.Code{}, 0, api.ErrForm}, {straight(inst(api.IPrint, -1, 0)), 5, api.ErrForm}, {straight(with(api.ICall, -1, 1)), 5, api.ErrForm}, {long, 5, api.ErrLimit},
	} {
		r, e := trace.Run(c.code, nums(1), c.fuel)
		if e != c.e || !reflect.DeepEqual(r, trace.Result{}) {
			t.Errorf("Run with the fuel %d answers %+v %d, want the error %d", c.fuel, r, e, c.e)
		}
	}
}

func TestOperations(t *testing.T) {
	least := int64(math.MinInt64)
	for _, pair := range [][2]int64{{7, 3}, {-7, 3}, {least, -1}, {1, 65}, {0, 5}, {5, 5}, {math.MaxInt64, 2}} {
		var insts []api.Inst
		var outs []int64
		insts = append(insts, with(api.IConst, 0, pair[0]), with(api.IConst, 1, pair[1]))
		for op := byte(api.Add); op <= api.Bang; op++ {
			args := []int{0, 1}
			switch op {
			case api.LAnd, api.LOr:
				continue
			case api.Neg, api.Not, api.Bang:
				args = args[:1]
			}
			n, _ := source.Value(op, pair[0], pair[1])
			outs = append(outs, n)
			insts = append(insts, inst(op, 2+int(op), args...), inst(api.IPrint, -1, 2+int(op)))
		}
		wantOuts(t, straight(insts...), nil, outs...)
	}
	wantOuts(t, straight(with(api.IConst, 0, least), inst(api.ICopy, 9, 0), inst(api.IPrint, -1, 9)), nil, least)
}

func TestReading(t *testing.T) {
	c := straight(at(2, inst(api.IRead, 0)), at(3, inst(api.IRead, 1)), inst(api.IPrint, -1, 1), inst(api.IPrint, -1, 0))
	wantOuts(t, c, nums(8, -9), -9, 8)
	wantOuts(t, c, nums(8, -9, 5), -9, 8)
	wantEnd(t, c, nums(8), api.TrapIn, 3)
	wantEnd(t, c, nil, api.TrapIn, 2)
	wantEnd(t, c, nums(), api.TrapIn, 2)
}

// TestTraps: each with the stop of its instruction, and no others.
func TestTraps(t *testing.T) {
	array := []api.Inst{with(api.IAlloc, 0, 2), with(api.IConst, 1, 2), with(api.IConst, 2, 0), inst(api.IPrint, -1, 1), inst(api.IMark, -1)}
	for _, c := range []struct {
		x   api.Inst
		end byte
	}{
		{inst(api.Div, 3, 1, 2), api.TrapZero}, {inst(api.Rem, 3, 1, 2), api.TrapZero},
		{inst(api.ILoad, 3, 0, 1), api.TrapCell}, {inst(api.IStore, -1, 0, 1, 2), api.TrapCell}, {inst(api.IRead, 3), api.TrapIn},
	} {
		for stop := range 8 {
			x := straight(append(slices.Clone(array), at(stop, c.x), inst(api.IPrint, -1, 1))...)
			wantRun(t, x, nil, 50, trace.Result{End: c.end, Outs: nums(2), Marks: 1, Stop: stop, Steps: 6, Calls: 1})
		}
	}
}

// TestATrapInACall: the stop is that of the instruction, not that of the call; what was printed stays.
func TestATrapInACall(t *testing.T) {
	c := program(
		fun(0, 0, ends(with(api.IConst, 0, 0), inst(api.IPrint, -1, 0), at(6, with(api.ICall, 1, 1, 0)), inst(api.IPrint, -1, 0))),
		fun(1, 0, answers(1, with(api.IParam, 0, 0), at(4, inst(api.Div, 1, 0, 0)))))
	wantRun(t, c, nil, 50, trace.Result{End: api.TrapZero, Outs: nums(0), Stop: 4, Steps: 5, Calls: 2})
}

// TestPhisTakeOneAnothersValues: all at once.
func TestPhisTakeOneAnothersValues(t *testing.T) {
	first := goes(1, with(api.IConst, 0, 1), with(api.IConst, 1, 2), with(api.IConst, 2, 3), with(api.IConst, 3, 4), with(api.IConst, 9, 1))
	head := branch(8, 2, 3, inst(api.IPrint, -1, 4), inst(api.IPrint, -1, 5), inst(api.IPrint, -1, 6))
	head.Phis = []api.Inst{phi(4, 0, 5), phi(5, 1, 6), phi(6, 2, 4), phi(8, 3, 7)}
	c := program(fun(0, 0, first, head, goes(1, inst(api.Sub, 7, 8, 9)), ends()))
	wantOuts(t, c, nil, 1, 2, 3, 2, 3, 1, 3, 1, 2, 1, 2, 3, 2, 3, 1)
}

// TestPhisByTheBlocksNumbers: not by the order in which ways lead there, or come about.
func TestPhisByTheBlocksNumbers(t *testing.T) {
	join := answers(9, inst(api.IPrint, -1, 9))
	join.Phis = []api.Inst{phi(9, 1, 2)}
	c := program(fun(0, 0,
		branch(0, 3, 1, inst(api.IRead, 0)),
		goes(2, with(api.IConst, 1, 10)),
		join,
		goes(2, with(api.IConst, 2, 30))))
	wantRun(t, c, nums(1), 50, trace.Result{End: api.Halt, Exit: 30, Outs: nums(30), Steps: 6, Calls: 1})
	wantRun(t, c, nums(0), 50, trace.Result{End: api.Halt, Exit: 10, Outs: nums(10), Steps: 6, Calls: 1})
	wantRun(t, c, nums(-5), 50, trace.Result{End: api.Halt, Exit: 30, Outs: nums(30), Steps: 6, Calls: 1})
}

// TestPhisOfABranchToItself: the block behind the one that is done is the same.
func TestPhisOfABranchToItself(t *testing.T) {
	loop := branch(3, 1, 2, inst(api.IPrint, -1, 2), inst(api.Sub, 3, 2, 1))
	loop.Phis = []api.Inst{phi(2, 0, 3), phi(4, 1, 2)}
	c := program(fun(0, 0, goes(1, with(api.IConst, 0, 3), with(api.IConst, 1, 1)), loop, ends(inst(api.IPrint, -1, 4))))
	wantOuts(t, c, nil, 3, 2, 1, 2)
}
