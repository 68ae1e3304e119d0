package ssa_test

import (
	"reflect"
	"slices"
	"testing"

	"teasel/api"
	"teasel/trace"
)

// TestWhatIsKnown: of each kind, where the variable is set ahead of the mark, behind it, or never.
func TestWhatIsKnown(t *testing.T) {
	known := []api.Dbg{isVariable(9, 1), isVariable(4, 3), isVariable(5, 2), isValue(7, 0, 3, 1), isValue(6, 1, -2, 5), isNumber(2, -5), isValue(0, 2, 0, 6), isVariable(1, 1)}
	c := main(ends(
		inst(api.IRead, 0), set(1, 0), get(1, 1), set(2, 1), get(2, 5), at(3, inst(api.IMark, -1), known...),
		number(3, 1), set(1, 3), set(3, 3), at(4, inst(api.IMark, -1), known...), set(2, 3), get(4, 1), show(4)))
	holdOuts(t, c, nums(40), 1)
	wantShown(t, c, nums(40), 1, map[int]int64{9: 40, 4: 0, 5: 40, 7: 121, 6: -75, 2: -5, 0: 6, 1: 40})
	wantShown(t, c, nums(40), 2, map[int]int64{9: 1, 4: 1, 5: 40, 7: 121, 6: -75, 2: -5, 0: 6, 1: 1})
}

// TestKnownAndSetOnNoWay: it is 0, at a mark, at a call, on each of its ways.
func TestKnownAndSetOnNoWay(t *testing.T) {
	c := program(
		fun(0, branch(0, 1, 2, inst(api.IRead, 0), mark(3)), goes(3, mark(3)), goes(3, mark(2, 3)), ends(mark(3, 2), at(2, call(-1, 1), isVariable(8, 3)))),
		fun(0, ends(mark(3, 0))))
	for _, n := range nums(0, 1) {
		for k := 1; k <= 4; k++ {
			want := map[int]int64{3: 0}
			switch {
			case k == 3 || k == 2 && n == 0:
				want[2] = 0
			case k == 4:
				want[0] = 0
			}
			wantShown(t, c, nums(n), k, want)
		}
	}
	wantPhis(t, c, 0)
}

// TestKnownAndSetOnOneWay: on the other one it is 0.
func TestKnownAndSetOnOneWay(t *testing.T) {
	c := main(branch(0, 1, 2, inst(api.IRead, 0)), goes(2, set(3, 0), mark(3)), ends(mark(3), number(1, 2), set(3, 1), mark(3)))
	wantShown(t, c, nums(6), 1, map[int]int64{3: 6})
	wantShown(t, c, nums(6), 2, map[int]int64{3: 6})
	wantShown(t, c, nums(6), 3, map[int]int64{3: 2})
	wantShown(t, c, nums(0), 1, map[int]int64{3: 0})
	wantShown(t, c, nums(0), 2, map[int]int64{3: 2})
}

// TestStopsOfSeveralFrames: each frame shows what is known at its depth.
func TestStopsOfSeveralFrames(t *testing.T) {
	known := []api.Dbg{deeper(2, isNumber(3, 33)), isVariable(1, 1), deeper(2, isVariable(1, 0)), deeper(1, isValue(0, 1, 2, 0)), deeper(2, isVariable(2, 4)), isValue(0, 0, 1, 0), deeper(1, isVariable(2, 1))}
	c := program(
		fun(0, ends(inst(api.IRead, 0), set(0, 0), get(1, 0), number(2, 9), set(1, 2), at(1, inst(api.IMark, -1), known...), set(1, 0), at(2, call(-1, 1), known[:3]...), set(0, 2), at(1, inst(api.IMark, -1), known...))),
		fun(0, ends(number(0, 6), set(0, 0), at(1, inst(api.IMark, -1), isVariable(0, 0), deeper(2, isVariable(0, 1)), deeper(1, isVariable(4, 0))))))
	c.Stops[1] = []api.Spot{{Fn: 4, Stmt: 7}, {Fn: -2, Stmt: 0}, {Fn: 5, Stmt: -9}}
	c.Stops[2] = []api.Spot{{Fn: 1, Stmt: 2}, {Fn: 2, Stmt: 3}, {Fn: 3, Stmt: 4}, {Fn: 4, Stmt: 5}}
	if end := hold(t, c, nums(5), 99); end != api.Halt {
		t.Error(end)
	}
	l, _, _ := trace.State(mustBuild(t, c), nums(5), 2, 999)
	vars := func(l ...api.Shown) []api.Shown { return l }
	has := func(v int, n int64) api.Shown { return api.Shown{Var: v, Has: true, N: n} }
	want := [][]api.Shown{vars(has(0, 6)), vars(has(4, 6)), vars(has(0, 0)), vars(has(1, 5)), nil, vars(has(1, 5), has(3, 33)), nil}
	if len(l) != len(want) {
		t.Fatalf("%+v", l)
	}
	for i, f := range l {
		if len(f.Vars)+len(want[i]) > 0 && !reflect.DeepEqual(f.Vars, want[i]) {
			t.Errorf("the frame %d shows %+v, want %+v", i, f.Vars, want[i])
		}
	}
}

// TestKnownAtCalls: what was known where the call began, whatever its answer is set to.
func TestKnownAtCalls(t *testing.T) {
	c := program(
		fun(0, goes(1, number(0, 2)),
			branch(3, 1, 2, at(2, call(1, 1), isVariable(0, 0), isVariable(1, 1)), set(0, 1), get(2, 0), inst(api.Add, 4, 2, 0), set(1, 4), inst(api.IRead, 3)),
			ends(at(3, call(-1, 1), isVariable(0, 0), isVariable(1, 1)))),
		fun(0, answers(0, inst(api.IRead, 0), set(2, 0), mark(2))))
	input := nums(10, 1, 20, 0, 30)
	if end := hold(t, c, input, 99); end != api.Halt {
		t.Error(end)
	}
	for k, want := range [][2]int64{{0, 0}, {10, 12}, {20, 22}} {
		l, _, _ := trace.State(mustBuild(t, c), input, k+1, 999)
		if len(l) != 2 || l[1].Vars[0].N != want[0] || l[1].Vars[1].N != want[1] {
			t.Errorf("%+v, want %v", l, want)
		}
	}
}

// TestHowRunsEnd: each trap with its own stop, and all other ends.
func TestHowRunsEnd(t *testing.T) {
	array := []api.Inst{{Op: api.IAlloc, Dst: 0, Imm: 2}, number(1, 2), number(2, 0), set(0, 0), set(1, 1), set(2, 2), mark(0, 1, 2), get(10, 0), get(11, 1), get(12, 2), show(11)}
	for _, c := range []struct {
		x   api.Inst
		end byte
	}{
		{inst(api.Div, 3, 11, 12), api.TrapZero}, {inst(api.Rem, 3, 11, 12), api.TrapZero},
		{inst(api.ILoad, 3, 10, 11), api.TrapCell}, {inst(api.IStore, -1, 10, 11, 12), api.TrapCell}, {inst(api.IRead, 3), api.TrapIn},
	} {
		for stop := range 8 {
			x := main(ends(append(slices.Clone(array), at(stop, c.x), mark(0), show(11))...))
			if end := hold(t, x, nil, 50); end != c.end {
				t.Errorf("%+v ends with %d", c.x, end)
			}
			if r, _ := trace.Run(mustBuild(t, x), nil, 999); r.Stop != stop || r.Marks != 1 {
				t.Errorf("%+v", r)
			}
		}
	}
	for x, want := range map[byte]byte{api.ILen: api.Wrong, api.IFree: api.Wrong} {
		y := inst(x, -1, 13)
		if x == api.ILen {
			y.Dst = 3
		}
		if end := hold(t, main(ends(append(slices.Clone(array), number(14, -4), set(0, 14), get(13, 0), y, mark(0))...)), nil, 50); end != want {
			t.Errorf("%d ends with %d", x, end)
		}
	}
}

// TestStopHeap: where variables hold the arrays.
func TestStopHeap(t *testing.T) {
	c := main(goes(1), goes(1, mark(0, 1), api.Inst{Op: api.IAlloc, Dst: 0, Imm: 255}, get(1, 0), set(1, 1), set(0, 0)))
	if end := hold(t, c, nil, 999); end != api.StopHeap {
		t.Error(end)
	}
	wantShown(t, c, nil, 17, map[int]int64{0: 3841, 1: 3585})
}

// TestRunsThatDoNotEnd: as far as they are looked at.
func TestRunsThatDoNotEnd(t *testing.T) {
	round := goes(1, mark(0, 1), get(1, 0), get(2, 1), set(1, 1), inst(api.Add, 3, 1, 0), set(0, 3))
	for fuel := range 60 {
		if end := hold(t, main(goes(1, number(0, 1), set(0, 0)), round), nil, fuel); end != api.StopFuel {
			t.Error(end)
		}
	}
	for _, c := range []api.Code{
		main(goes(1), goes(1)),
		main(goes(1), goes(1, get(0, 0), set(0, 0))),
		main(goes(1), goes(2, mark(0), get(0, 1), set(0, 0)), goes(1, mark(1), get(1, 0), number(2, 3), inst(api.Xor, 3, 1, 2), set(1, 3))),
		program(fun(0, ends(get(0, 0), set(1, 0), at(1, call(-1, 0), isVariable(0, 1)), mark(0)))),
		program(fun(0, ends(number(0, 5), call(-1, 1, 0))), fun(1, ends(param(0, 0), set(0, 0), mark(0, 1), get(1, 0), inst(api.Add, 2, 1, 0), at(2, call(3, 1, 2), isVariable(4, 0)), set(1, 3)))),
	} {
		for _, fuel := range []int{0, 1, 2, 3, 7, 200} {
			if end := hold(t, c, nil, fuel); end != api.StopFuel {
				t.Errorf("%+v ends with %d", c, end)
			}
		}
	}
}
