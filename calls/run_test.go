package calls_test

import (
	"reflect"
	"testing"

	"teasel/api"
	. "teasel/parts"
	"teasel/trace"
)

// TestExampleOfTheChapter: f(x) answers x + 1, main prints f(2); a mark of f in main has two frames.
func TestExampleOfTheChapter(t *testing.T) {
	c := Program(
		Fun(0, Ends(Number(0, 2), At(2, Call(1, 1, 0)), Show(1))),
		Fun(1, Answers(2, Param(0, 0), At(4, Mark(IsValue(0, 0, 1, 0))), Number(1, 1), Inst(api.Add, 2, 0, 1))))
	wantCalls(t, c, 0, 0)
	holdEnd(t, c, api.Halt, nil, 3)
	wantFrames(t, c, nil, 1, frame(1, 5, 2), frame(2, 3))
	d := mustRun(t, c)
	want := api.Fun{Vals: 50, Blocks: []api.Block{Ends(Number(0, 2), At(8, Mark(IsValue(0, 0, 1, 0))), Number(2, 1), Inst(api.Add, 1, 0, 2), Show(1))}}
	if !reflect.DeepEqual(d.Funs[0], want) || len(d.Stops) != 9 || !reflect.DeepEqual(d.Stops[8], []api.Spot{{Fn: 1, Stmt: 5}, {Fn: 2, Stmt: 3}}) {
		t.Errorf("%s", told(d))
	}
	if !reflect.DeepEqual(d.Funs[1], c.Funs[1]) {
		t.Errorf("the function itself became %+v", d.Funs[1])
	}
}

// TestResults: that are used, or not, or not even made; of a value, a parameter, or of nothing.
func TestResults(t *testing.T) {
	for _, last := range []api.Block{Answers(2), Answers(1), Answers(0), Ends()} {
		last.Insts = []api.Inst{Param(0, 0), Param(1, 1), Inst(api.Sub, 2, 0, 1), Show(2)}
		f := Fun(2, last)
		one := map[int]int64{2: 6, 1: 3, 0: 9}[last.Arg]
		if last.End == api.RetNone {
			one = 0
		}
		c := Program(Fun(0, Answers(2, Number(0, 9), Number(1, 3), Call(2, 1, 0, 1), Show(2), Call(-1, 1, 1, 0), Call(3, 1, 0, 0))), f)
		wantCalls(t, c, 0, 0)
		holdEnd(t, c, api.Halt, nil, 6, one, -6, 0)
		if r, _ := trace.Run(mustRun(t, c), nil, 99); r.Exit != one || r.Calls != 1 {
			t.Errorf("%+v", r)
		}
	}
}

// TestParametersAreWhatIsHandedIn: twice the same, turned round, asked for twice, or not at all; answered, taken by phis, and known.
func TestParametersAreWhatIsHandedIn(t *testing.T) {
	f := Fun(3,
		Branch(0, 1, 2, Param(0, 2), Param(1, 0), Param(2, 2)),
		Goes(3, At(2, Mark(IsValue(0, 0, 1, 0), IsValue(1, 1, 2, 0)))),
		Goes(3, Show(2)),
		Behind(Answers(3, Show(3)), Phi(3, 1, 0)))
	c := Program(Fun(0, Ends(Read(0), Read(1), Read(2), Call(3, 1, 0, 1, 2), Show(3), Call(4, 1, 2, 2, 0), Show(4), Call(5, 1, 4, 3, 4), Show(5))), f)
	wantCalls(t, c, 0, 0)
	holdEnd(t, c, api.Halt, nums(7, 8, 9), 7, 7, 9, 9, 9, 9)
	holdEnd(t, c, api.Halt, nums(0, 8, 0), 0, 0, 0, 0, 0, 0, 0, 0, 0)
	wantFrames(t, c, nums(7, 8, 9), 1, frame(2, 3, 9, 14), frame(0, 1))
	wantFrames(t, c, nums(7, 8, 9), 2, frame(2, 3, 7, 18), frame(0, 1))
	if n := Count(mustRun(t, c), api.IParam); n != 3 {
		t.Error(n)
	}
}

// TestAParameterIsAnswered: by one block, or by each of several.
func TestAParameterIsAnswered(t *testing.T) {
	for _, f := range []api.Fun{
		Fun(1, Answers(0, Param(0, 0))),
		Fun(1, Branch(0, 1, 2, Param(0, 0)), Answers(0), Answers(0)),
		Fun(1, Goes(1, Param(0, 0)), Answers(0)),
	} {
		c := Program(Fun(0, Answers(2, Read(0), Call(1, 1, 0), Call(2, 1, 1), Show(2))), f)
		wantCalls(t, c, 0, 0)
		holdEnd(t, c, api.Halt, nums(5), 5)
		holdEnd(t, c, api.Halt, nums(0), 0)
	}
}

// TestCalledInManyPlaces: twice in a block, in others, in a loop; each has values of its own.
func TestCalledInManyPlaces(t *testing.T) {
	f := Fun(1,
		Branch(0, 1, 2, Param(0, 0), Number(1, 10)),
		Answers(2, Inst(api.Mul, 2, 0, 1)),
		Ends(Show(1)))
	c := Program(
		Fun(0,
			Goes(1, Read(0), Number(1, 1), Call(2, 1, 0), Call(3, 1, 2), Show(3)),
			Behind(Branch(5, 2, 3, Call(5, 1, 4), Show(5)), Phi(4, 0, 7)),
			Goes(1, Call(6, 1, 3), Show(6), Inst(api.Sub, 7, 4, 1)),
			Answers(8, Call(8, 1, 5), Show(2))),
		f)
	wantCalls(t, c, 0, 0)
	holdEnd(t, c, api.Halt, nums(2), 200, 20, 2000, 10, 2000, 10, 0, 10, 20)
	holdEnd(t, c, api.Halt, nums(0), 10, 10, 0, 10, 0, 10, 0)
}

// TestLoopsInTheFunction: with phis; they are gone through anew each time.
func TestLoopsInTheFunction(t *testing.T) {
	f := Fun(1,
		Goes(1, Param(0, 0), Number(1, 1)),
		Behind(Branch(2, 2, 3, Inst(api.Mul, 9, 3, 2)), Phi(2, 0, 4), Phi(3, 1, 9)),
		Goes(1, Inst(api.Sub, 4, 2, 1)),
		Answers(3))
	c := Program(
		Fun(0,
			Goes(1, Read(0), Number(1, 1)),
			Behind(Branch(3, 1, 2, Call(2, 1, 4), Show(2), Inst(api.Sub, 3, 4, 1)), Phi(4, 0, 3)),
			Ends(Show(2), Call(7, 1, 0), Show(7))),
		f)
	wantCalls(t, c, 0, 0)
	holdEnd(t, c, api.Halt, nums(4), 24, 6, 2, 1, 1, 24)
	f.Blocks[1].Insts[0] = Inst(api.Add, 9, 3, 2)
	holdEnd(t, c, api.Halt, nums(4), 11, 7, 4, 2, 2, 11)
}

// TestWaysBehindACall: the phis that the block with the call led to take what they took, in loops, too.
func TestWaysBehindACall(t *testing.T) {
	f := Fun(1, Branch(0, 1, 2, Param(0, 0), Number(1, 1)), Answers(1), Ends(Inst(api.Not, 2, 0), Show(2)))
	c := Program(
		Fun(0,
			Branch(3, 1, 2, Read(0), Number(1, 10), Number(2, 20), Call(3, 1, 0)),
			Goes(3, Call(4, 1, 1), Inst(api.Add, 5, 4, 1)),
			Goes(3, Call(6, 1, 2), Call(7, 1, 6)),
			Behind(Branch(10, 3, 4, Show(8), Call(9, 1, 8), Inst(api.Sub, 10, 8, 9)), Phi(8, 5, 7, 10), Phi(11, 1, 2, 8)),
			Ends(Show(11))),
		f)
	wantCalls(t, c, 0, 0)
	holdEnd(t, c, api.Halt, nums(7), 11, 10, 9, 8, 7, 6, 5, 4, 3, 2, 1, 2)
	holdEnd(t, c, api.Halt, nums(0), -1, 1, 20)
}

// TestAnswersOfOneBlockAmongOthers: that stands ahead of some of them; several calls behind one another go on from there.
func TestAnswersOfOneBlockAmongOthers(t *testing.T) {
	f := Fun(1,
		Goes(2, Param(0, 0), Number(1, 1)),
		Answers(5, Inst(api.Mul, 5, 3, 3)),
		Behind(Branch(4, 3, 1, Inst(api.Gt, 4, 3, 1)), Phi(3, 0, 6)),
		Goes(2, Inst(api.Sub, 6, 3, 1), Show(6)))
	c := Program(
		Fun(0,
			Branch(2, 1, 2, Read(0), Call(1, 1, 0), Call(2, 1, 1)),
			Goes(2, Call(3, 1, 2)),
			Behind(Ends(Show(4), Call(5, 1, 4), Show(5)), Phi(4, 0, 3))),
		f)
	wantCalls(t, c, 0, 0)
	holdEnd(t, c, api.Halt, nums(3), 2, 1, 1, 1)
	holdEnd(t, c, api.Halt, nums(-3), 8, 7, 6, 5, 4, 3, 2, 1, 1, 1)
}

// TestParametersBehindCalls: they must stand in the first block, which may be several now.
func TestParametersBehindCalls(t *testing.T) {
	f := Fun(1, Branch(0, 1, 2, Param(0, 0)), Answers(0), Ends())
	c := Program(
		Fun(0, Ends(Read(0), Read(1), Call(2, 2, 0, 1), Show(2))),
		f,
		Fun(2, Answers(7, Param(0, 1), Call(1, 1, 0), Param(2, 0), Show(2), Call(3, 1, 2), Param(4, 1), Inst(api.Sub, 5, 2, 4), Call(-1, 1, 5), Param(6, 0), Inst(api.Add, 7, 5, 6))))
	wantCalls(t, c, 1, 0, 0)
	holdEnd(t, c, api.Halt, nums(8, 5), 8, 11)
	holdEnd(t, c, api.Halt, nums(0, 0), 0, 0)
}

// TestTraps: of each kind, at stops that have the frames of the function and those of the call.
func TestTraps(t *testing.T) {
	for _, x := range []struct {
		end  byte
		list []api.Inst
	}{
		{api.TrapZero, []api.Inst{Param(0, 0), Number(1, 0), At(3, Inst(api.Div, 2, 0, 1))}},
		{api.TrapZero, []api.Inst{Param(0, 0), Number(1, 0), At(3, Inst(api.Rem, 2, 0, 1))}},
		{api.TrapCell, []api.Inst{Param(0, 0), {Op: api.IAlloc, Dst: 1, Imm: 3}, At(3, Inst(api.ILoad, 2, 1, 0))}},
		{api.TrapCell, []api.Inst{Param(0, 0), {Op: api.IAlloc, Dst: 1, Imm: 3}, Number(2, 0), At(3, Inst(api.IStore, -1, 1, 0, 0))}},
		{api.TrapIn, []api.Inst{Read(0), At(3, Read(2))}},
	} {
		c := Program(Fun(0, Ends(Read(0), At(5, Call(1, 1, 0)), Show(1))), Fun(1, Answers(2, x.list...)))
		wantCalls(t, c, 0, 0)
		holdEnd(t, c, x.end, nums(3, 4))
		d := mustRun(t, c)
		want := []api.Spot{{Fn: 0, Stmt: 4}, {Fn: 7, Stmt: 23}, {Fn: 2, Stmt: 6}, {Fn: 7, Stmt: 25}}
		if r, _ := trace.Run(d, nums(3, 4), 99); r.End != x.end || !reflect.DeepEqual(d.Stops[r.Stop], want) {
			t.Errorf("%+v at %+v, want %+v", r, d.Stops[r.Stop], want)
		}
	}
}

// TestArraysReadsAndPrints: the heap is that of all; what is freed in the function is free behind it.
func TestArraysReadsAndPrints(t *testing.T) {
	array := func(dst int) api.Inst { return api.Inst{Op: api.IAlloc, Dst: dst, Imm: 3} }
	c := Program(
		Fun(0, Ends(array(0), Call(1, 1, 0), Call(2, 1, 0), Show(1), Show(2), Inst(api.ITop, 3), Show(3), Call(4, 2), Call(5, 2), Inst(api.ILen, 6, 5), Show(6), Show(5))),
		Fun(1, Answers(6, Param(0, 0), Inst(api.ITop, 1), array(2), Number(3, 1), Read(4), Inst(api.ILoad, 6, 0, 3), Inst(api.IStore, -1, 0, 3, 4), Inst(api.ILoad, 5, 2, 3), Show(5), Inst(api.IStore, -1, 2, 3, 4), Inst(api.IFree, -1, 1))),
		Fun(0, Answers(0, array(0))))
	wantCalls(t, c, 0, 0, 0)
	holdEnd(t, c, api.Halt, nums(5, 6), 0, 0, 0, 5, 4, 3, 9)
	holdEnd(t, c, api.TrapIn, nums(5), 0)
}

// TestCallsOfCalls: one that calls is no small one; a second Run goes on with what it has become.
func TestCallsOfCalls(t *testing.T) {
	c := Program(
		Fun(0, Ends(Read(0), At(1, Call(1, 1, 0), IsValue(0, 0, 2, 0)), Show(1))),
		Fun(1, Answers(2, Param(0, 0), At(2, Call(1, 2, 0), IsValue(1, 0, 1, 1)), Inst(api.Add, 2, 1, 0))),
		Fun(1, Answers(1, Param(0, 0), At(4, Mark(IsValue(0, 0, 1, 0))), Inst(api.Mul, 1, 0, 0))))
	wantCalls(t, c, 1, 0, 0)
	holdEnd(t, c, api.Halt, nums(5), 30)
	d := mustRun(t, c)
	wantCalls(t, d, 0, 0, 0)
	holdEnd(t, d, api.Halt, nums(5), 30)
	e := mustRun(t, d)
	holdRuns(t, c, e, nums(5), 99)
	l, _, _ := trace.State(e, nums(5), 1, 99)
	want := []api.Frame{frame(1, 5, 5), {Fn: 2, Stmt: 3, Vars: []api.Shown{{Var: 1, Has: true, N: 6}}}, frame(1, 2, 10), frame(7, 21)}
	if r, _ := trace.Run(e, nums(5), 99); r.Calls != 1 || !reflect.DeepEqual(l, want) {
		t.Errorf("%+v: %+v, want\n%+v", r, l, want)
	}
	if again := mustRun(t, e); !reflect.DeepEqual(again, e) {
		t.Errorf("a third Run makes of\n%s:\n%s", told(e), told(again))
	}
}

// TestFunctionsThatCallThemselves: at once, or by way of another one.
func TestFunctionsThatCallThemselves(t *testing.T) {
	one := Fun(1,
		Branch(0, 1, 2, Param(0, 0), Number(1, 1)),
		Answers(4, Inst(api.Sub, 2, 0, 1), Call(3, 1, 2), Inst(api.Mul, 4, 0, 3)),
		Answers(1))
	c := Program(Fun(0, Ends(Read(0), Call(1, 1, 0), Show(1))), one)
	wantCalls(t, c, 1, 1)
	holdEnd(t, c, api.Halt, nums(5), 120)
	one.Blocks[1].Insts[1].Imm = 2
	c = Program(Fun(0, Ends(Read(0), Call(1, 1, 0), Show(1))), one, Fun(1, Answers(1, Param(0, 0), Call(1, 1, 0))))
	wantCalls(t, c, 1, 1, 1)
	holdEnd(t, c, api.Halt, nums(5), 120)
	c = Program(Fun(0, Ends(Number(0, 1), Show(0), Call(-1, 0))))
	wantCalls(t, c, 1)
	if end := hold(t, c, nil, 300); end != api.StopFuel {
		t.Error(end)
	}
}

// TestMainIsCalled: it may be small, too, and stays what it is.
func TestMainIsCalled(t *testing.T) {
	c := Program(Fun(0, Ends(Call(0, 1), Show(0))), Fun(0, Answers(0, Read(0), Show(0))))
	c.Main = 1
	wantCalls(t, c, 0, 0)
	holdEnd(t, c, api.Halt, nums(3), 3)
	c.Main = 0
	holdEnd(t, c, api.Halt, nums(3), 3, 3)
}

// TestNoMoreCallsAreOpen: fewer, where small ones were the innermost.
func TestNoMoreCallsAreOpen(t *testing.T) {
	c := Program(
		Fun(0, Ends(Read(0), Call(1, 1, 0), Show(1))),
		Fun(1, Answers(2, Param(0, 0), Call(1, 2, 0), Call(2, 2, 1), Call(3, 3, 2))),
		Fun(1, Answers(1, Param(0, 0), Inst(api.Neg, 1, 0))),
		Fun(1, Ends(Param(0, 0), Show(0))))
	before, _ := trace.Run(c, nums(4), 99)
	behind, _ := trace.Run(mustRun(t, c), nums(4), 99)
	if before.Calls != 3 || behind.Calls != 2 {
		t.Error(before.Calls, behind.Calls)
	}
	holdEnd(t, c, api.Halt, nums(4), 4, 4)
}

// TestNothingToBeDone: code without calls, and without functions that are small, stays as it is.
func TestNothingToBeDone(t *testing.T) {
	for _, c := range []api.Code{
		Main(Ends()),
		Main(Branch(0, 1, 2, Read(0), Number(1, 4)), Goes(3), Goes(3, At(3, Inst(api.Div, 2, 0, 1))), Behind(Answers(4, At(1, Mark(), IsValue(0, 4, 1, 0))), Phi(4, 0, 2))),
		Program(Fun(0, Ends(Call(0, 1))), Fun(0, Goes(1, Call(0, 2)), Ends()), Fun(0, Goes(1), Goes(2), Goes(1))),
	} {
		if d := mustRun(t, c); !reflect.DeepEqual(d, c) {
			t.Errorf("%s:\n%s", told(c), told(d))
		}
		hold(t, c, nums(2), 99)
	}
}

// TestWhatIsNotLookedAt: it changes nothing, and isn't handed on.
func TestWhatIsNotLookedAt(t *testing.T) {
	junk := Inst(api.Add, 2, 0, 0)
	junk.Imm, junk.Site, junk.Dbg = 77, -5, []api.Dbg{IsValue(3, 900, 1, 2), {Kind: 99}, {Kind: api.DVar, Arg: -3}}
	number := api.Dbg{Var: 1, Kind: api.DNum, Arg: 12345, A: 7, B: 8}
	first, last := Goes(1, junk), Ends(At(2, Mark(), number))
	first.Insts = append([]api.Inst{Param(0, 0)}, first.Insts...)
	first.Arg, first.Else, last.Arg, last.To, last.Else = 99, 1234, -3, -4, 5
	main := Answers(1, Read(0), At(4, Call(1, 1, 0), number), Show(1))
	main.To, main.Else = 7, -7
	c := Program(Fun(0, main), Fun(1, first, last))
	c.Funs[0].Vars, c.Funs[1].Vars = 3, 4
	holdEnd(t, c, api.Halt, nums(6), 0)
	want := api.Fun{Vals: 50, Blocks: []api.Block{
		Goes(1, Read(0), api.Inst{Op: api.Add, Dst: 2, Args: []int{0, 0}, Imm: 77}),
		Answers(1, At(8, Mark(), IsNumber(1, 8), Deeper(1, IsNumber(1, 8))), Number(1, 0), Show(1)),
	}}
	if d := mustRun(t, c); !reflect.DeepEqual(d.Funs[0], want) || d.Funs[1].Vars != 0 {
		t.Errorf("%+v, want\n%+v", d.Funs, want)
	}
}
