package trace_test

import (
	"reflect"
	"slices"
	"testing"

	"teasel/api"
	"teasel/code"
	"teasel/samples"
	"teasel/trace"
)

// telling is code that prints what it reads, in a call, with several frames and variables at each mark.
func telling() api.Code {
	f := fun(1, 2, answers(1, with(api.IParam, 0, 0), with(api.ISet, -1, 1, 0), at(1, inst(api.IMark, -1), isVariable(4, 1), isValue(2, 0, 2, 0), deeper(1, isNumber(6, 5))), inst(api.IRead, 1), show(1)))
	main := fun(0, 0, ends(inst(api.IRead, 0), show(0), at(2, with(api.ICall, 1, 1, 0), isValue(3, 0, 1, 0), isNumber(1, 1)), show(1)))
	c := program(main, f)
	c.Stops[1] = []api.Spot{{Fn: 1, Stmt: 5}, {Fn: 0, Stmt: 6}}
	return c
}

func TestWhatIsHandedInIsNotKept(t *testing.T) {
	c := telling()
	mustBeRight(t, c)
	input := nums(5, 6)
	r, _ := trace.Run(c, input, 50)
	l, _, _ := trace.State(c, input, 1, 50)
	want := plain(l)
	clear(input)
	clear(c.Stops[1])
	for _, f := range c.Funs {
		for _, x := range f.Blocks[0].Insts {
			clear(x.Args)
			clear(x.Dbg)
		}
		clear(f.Blocks[0].Insts)
	}
	if !slices.Equal(r.Outs, nums(5, 6, 6)) || !reflect.DeepEqual(plain(l), want) || l[0].Fn != 1 {
		t.Error("an answer hangs together with what was handed in")
	}
}

// TestWhatIsHandedInIsNotChanged: whatever the run does with it.
func TestWhatIsHandedInIsNotChanged(t *testing.T) {
	for seed := range uint64(500) {
		c := samples.Code(seed, 3, int(seed%2))
		before := code.Copy(c)
		input := nums(4, 3, 2, 1)
		trace.Run(c, input, 300)
		trace.State(c, input, 3, 300)
		if !reflect.DeepEqual(c, before) || !slices.Equal(input, nums(4, 3, 2, 1)) {
			t.Fatal("what is handed in was changed", seed)
		}
	}
}

// TestAnswersAreNewMemory: whoever writes over one list, spare room too, changes no other.
func TestAnswersAreNewMemory(t *testing.T) {
	c := telling()
	first, _ := trace.Run(c, nums(5, 6), 50)
	again, _ := trace.Run(c, nums(5, 6), 50)
	clear(first.Outs[:cap(first.Outs)])
	if !slices.Equal(again.Outs, nums(5, 6, 6)) {
		t.Error("two answers share memory")
	}
	want := []api.Frame{frame(1, 5, has(2, 10), has(4, 5)), frame(0, 6, has(6, 5)), frame(0, 3, has(1, 1), has(3, 5))}
	l, _, _ := trace.State(c, nums(5, 6), 1, 50)
	for i := range l {
		k, _, _ := trace.State(c, nums(5, 6), 1, 50)
		vars := k[i].Vars[:cap(k[i].Vars)]
		for n := range vars {
			vars[n] = has(99, 99)
		}
		k[i].Vars = l[i].Vars
		if !reflect.DeepEqual(plain(k), plain(want)) {
			t.Error("two frames share memory", i)
		}
		clear(k[:cap(k)])
	}
	if !reflect.DeepEqual(plain(l), plain(want)) {
		t.Errorf("%+v, want %+v", l, want)
	}
	wantState(t, c, nums(5, 6), 1, 50, 1, want...)
}

func TestTheSameAnswerEachTime(t *testing.T) {
	for seed := range uint64(300) {
		c := samples.Code(seed, 3, 0)
		a, _ := trace.Run(c, nums(1, 2, 3), 500)
		l, n, e := trace.State(c, nums(1, 2, 3), 4, 500)
		trace.Run(samples.Code(seed+1, 3, 0), nums(9), 100)
		b, _ := trace.Run(c, nums(1, 2, 3), 500)
		k, m, g := trace.State(c, nums(1, 2, 3), 4, 500)
		if !reflect.DeepEqual(a, b) || !reflect.DeepEqual(l, k) || n != m || e != g {
			t.Fatal("two answers to one question", seed)
		}
	}
}

// TestManyCallsOfFunctionsWithManyValues: as many as there are steps, of functions with as many values and variables as there may be.
func TestManyCallsOfFunctionsWithManyValues(t *testing.T) {
	f := api.Fun{Vars: api.MaxLocals, Vals: api.MaxVals, Blocks: []api.Block{ends(with(api.ICall, -1, 0))}}
	for v := range api.MaxCode - 1 {
		f.Blocks[0].Insts = append(f.Blocks[0].Insts, number(api.MaxVals-1-v, 5))
	}
	wantRun(t, program(f), nil, api.MaxFuel, trace.Result{End: api.StopFuel, Steps: api.MaxFuel, Calls: api.MaxFuel + 1})
	// A way with many values that isn't gone counts for nothing, nor does one that was gone by another call.
	f = api.Fun{Params: 1, Vars: api.MaxLocals, Vals: api.MaxVals, Blocks: []api.Block{
		branch(0, 1, 2, with(api.IParam, 0, 0)), ends(), ends(number(1, 0), with(api.ISet, -1, 254, 1), with(api.ICall, 2, 1, 1))}}
	for v := range 39000 {
		f.Blocks[1].Insts = append(f.Blocks[1].Insts, number(100+v, 5))
	}
	main := fun(0, 0, ends(number(0, 0), number(1, 1), with(api.ICall, -1, 1, 1), with(api.ICall, -1, 1, 0)))
	wantRun(t, program(main, f), nil, api.MaxFuel, trace.Result{End: api.StopFuel, Steps: api.MaxFuel, Calls: (api.MaxFuel-39007)/5 + 2})
}

// TestManyFrames: of as many calls as there are steps for.
func TestManyFrames(t *testing.T) {
	f := fun(0, 1, ends(at(3, inst(api.IMark, -1)), at(1, with(api.ICall, -1, 0))))
	l, outs, e := trace.State(program(f), nil, api.MaxFuel/8, api.MaxFuel)
	if e != api.OK || outs != 0 || len(l) != api.MaxFuel/8 || l[0].Stmt != 4 || l[1].Stmt != 2 || l[len(l)-1].Stmt != 2 {
		t.Error("the state has not all calls", len(l), e)
	}
}

// TestCodeOfAnyKind: wrong code of all kinds is refused, not run.
func TestCodeOfAnyKind(t *testing.T) {
	for op := range 256 {
		for dst := -2; dst < 3; dst++ {
			for args := range 4 {
				for _, imm := range []int64{-1 << 63, -1, 0, 1, 5, 300, 1<<63 - 1} {
					x := with(byte(op), dst, imm, make([]int, args)...)
					c := straight(number(0, 1), x)
					c.Funs[0].Blocks[0].End = byte(op % 7)
					r, e := trace.Run(c, nil, 20)
					if e != code.Check(c) || e != api.OK && !reflect.DeepEqual(r, trace.Result{}) {
						t.Fatalf("%+v answers %+v %d", c, r, e)
					}
				}
			}
		}
	}
}
