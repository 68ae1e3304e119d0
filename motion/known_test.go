package motion_test

import (
	"reflect"
	"testing"

	"teasel/api"
	. "teasel/parts"
	"teasel/trace"
)

// TestShownAsBefore: what has moved, at marks in the loop, behind it, and ahead of where it stood.
func TestShownAsBefore(t *testing.T) {
	c := Main(
		Branch(0, 1, 3, Read(0), Read(1)),
		Behind(Branch(6, 2, 3, Mark(IsValue(0, 2, 1, 0), IsValue(9, 0, 1, 0)), Number(4, 7), Inst(api.Mul, 5, 0, 4), Mark(IsValue(0, 5, 1, 0), IsValue(1, 4, 3, 1)), Read(6)), Phi(2, 1, 7)),
		Goes(1, Inst(api.Sub, 7, 2, 5), Inst(api.Not, 8, 5), Mark(IsValue(0, 8, -1, 0), IsValue(1, 5, 2, 2), IsValue(2, 7, 1, 0), IsNumber(3, 5))),
		Ends(Mark(IsValue(0, 0, 1, 0)), Show(0)))
	wantHome(t, c, 4, 4, 5, 8)
	in := nums(3, 100, 1, 1, 0)
	wantShown(t, c, in, 1, map[int]int64{0: 100, 9: 3})
	wantShown(t, c, in, 2, map[int]int64{0: 21, 1: 22})
	wantShown(t, c, in, 3, map[int]int64{0: 22, 1: 44, 2: 79, 3: 5})
	wantShown(t, c, in, 4, map[int]int64{0: 79, 9: 3})
	wantShown(t, c, in, 9, map[int]int64{0: 3})
	wantShown(t, c, nums(0, 100), 1, map[int]int64{0: 0})
}

// TestShownBehindTheLoop: by marks and calls that can be reached through the loop alone.
func TestShownBehindTheLoop(t *testing.T) {
	known := []api.Dbg{IsValue(0, 3, 1, 0), IsValue(1, 2, 1, 0), Deeper(1, IsValue(0, 4, 2, 1))}
	c := Program(
		Fun(0,
			Goes(1, Read(0)),
			Behind(Branch(5, 1, 2, Number(3, 7), Inst(api.Add, 4, 3, 0), Inst(api.Add, 6, 2, 4), Read(5), At(1, Call(-1, 1, 4), known...)), Phi(2, 0, 6)),
			Answers(4, At(1, Mark(), known...), At(3, Call(-1, 1, 2), known...))),
		Fun(1, Ends(Mark())))
	wantHome(t, c, 0, 3, 4)
	wantStay(t, c, 6)
	in := nums(10, 1, 0)
	if end := hold(t, c, in, 99); end != api.Halt {
		t.Error(end)
	}
	wantShown(t, c, in, 3, map[int]int64{0: 7, 1: 27})
	l, _, _ := trace.State(mustRun(t, c), in, 2, 999)
	want := []api.Frame{
		{Fn: 0, Stmt: 1},
		{Fn: 1, Stmt: 2, Vars: []api.Shown{{Var: 0, Has: true, N: 7}, {Var: 1, Has: true, N: 27}}},
		{Fn: 7, Stmt: 21, Vars: []api.Shown{{Var: 0, Has: true, N: 35}}},
	}
	if !reflect.DeepEqual(l, want) {
		t.Errorf("%+v, want\n%+v", l, want)
	}
}

// TestPhisThatAreSplitAreShown: a variable that a phi of a head has, whose Args come from several ways in.
func TestPhisThatAreSplitAreShown(t *testing.T) {
	c := Main(
		Branch(0, 1, 2, Read(0), Number(1, 10)),
		Goes(3, Mark(IsValue(0, 0, 1, 0))),
		Branch(2, 3, 4, Read(2)),
		Behind(Branch(5, 3, 4, Mark(IsValue(0, 3, 1, 0), IsValue(1, 4, 2, 0)), Inst(api.Add, 6, 3, 1), Read(5)), Phi(3, 0, 2, 6), Phi(4, 1, 1, 3)),
		Ends())
	wantShown(t, c, nums(5, 1, 0), 2, map[int]int64{0: 5, 1: 20})
	wantShown(t, c, nums(5, 1, 0), 3, map[int]int64{0: 15, 1: 10})
	wantShown(t, c, nums(0, 8, 1, 0), 1, map[int]int64{0: 8, 1: 20})
	wantShown(t, c, nums(0, 8, 1, 0), 2, map[int]int64{0: 18, 1: 16})
}
