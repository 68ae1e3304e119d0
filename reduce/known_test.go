package reduce_test

import (
	"reflect"
	"testing"

	"teasel/api"
	. "teasel/parts"
	"teasel/trace"
)

// TestWhatWasReplacedIsShown: at marks ahead of the step and behind it, in the loop and behind it, times a number and with one.
func TestWhatWasReplacedIsShown(t *testing.T) {
	c := Main(
		Goes(1, Read(0), Number(1, 2), Number(2, 12)),
		Behind(Branch(9, 1, 2,
			Mark(IsValue(0, 3, 1, 0)),
			Inst(api.Mul, 4, 3, 2), Mark(IsValue(0, 4, 1, 0), IsValue(1, 4, -3, 7), IsNumber(2, 9), IsValue(3, 3, 1, 0)),
			Inst(api.Add, 5, 3, 1), Inst(api.Shl, 6, 4, 1), Mark(IsValue(0, 4, 1, 0), IsValue(1, 6, 1, 1), IsValue(2, 5, 1, 0)),
			Read(9)), Phi(3, 0, 5)),
		Ends(Mark(IsValue(0, 4, 1, 0), IsValue(1, 6, 2, 0), IsValue(2, 3, 1, 0), IsValue(3, 5, 1, 0))))
	wantLeft(t, c, 1, 0, 2)
	in := nums(10, 1, 1, 0)
	wantShown(t, c, in, 1, map[int]int64{0: 10})
	wantShown(t, c, in, 2, map[int]int64{0: 120, 1: -353, 2: 9, 3: 10})
	wantShown(t, c, in, 3, map[int]int64{0: 120, 1: 481, 2: 12})
	wantShown(t, c, in, 5, map[int]int64{0: 144, 1: -425, 2: 9, 3: 12})
	wantShown(t, c, in, 9, map[int]int64{0: 168, 1: 673, 2: 16})
	wantShown(t, c, in, 10, map[int]int64{0: 168, 1: 1344, 2: 14, 3: 16})
}

// TestShownAtCalls: in the frames of the call.
func TestShownAtCalls(t *testing.T) {
	c := Program(
		Fun(0,
			Goes(1, Number(0, 5), Number(1, 1), Number(2, 12)),
			Behind(Branch(9, 1, 2, Inst(api.Mul, 4, 3, 2), At(1, Call(-1, 1, 4), IsValue(0, 4, 1, 0), Deeper(1, IsValue(1, 4, 2, 1)), Deeper(1, IsValue(0, 3, 1, 0))), Inst(api.Add, 5, 3, 1), Read(9)), Phi(3, 0, 5)),
			Ends()),
		Fun(1, Ends(Param(0, 0), Show(0), Mark(IsValue(5, 0, 1, 0)))))
	wantLeft(t, c, 1, 0, 1)
	holdEnd(t, c, api.Halt, nums(1, 0), 60, 72)
	l, outs, e := trace.State(mustRun(t, c), nums(1, 0), 2, 99)
	want := []api.Frame{
		{Fn: 0, Stmt: 1, Vars: []api.Shown{{Var: 5, Has: true, N: 72}}},
		{Fn: 1, Stmt: 2, Vars: []api.Shown{{Var: 0, Has: true, N: 72}}},
		{Fn: 7, Stmt: 21, Vars: []api.Shown{{Var: 0, Has: true, N: 6}, {Var: 1, Has: true, N: 145}}},
	}
	if e != api.OK || outs != 2 || !reflect.DeepEqual(l, want) {
		t.Errorf("%d, %d: %+v, want\n%+v", e, outs, l, want)
	}
}

// TestShownOfOneSum: products that are one sum now are each shown.
func TestShownOfOneSum(t *testing.T) {
	c := turn(1, 2,
		Inst(api.Mul, 6, 4, 3), Inst(api.Shl, 7, 4, 2), Inst(api.Mul, 8, 4, 2), Mark(IsValue(0, 6, 1, 0), IsValue(1, 7, 1, 0), IsValue(2, 8, 1, 0)), Inst(api.Add, 5, 4, 2))
	wantLeft(t, c, 1, 0, 1)
	wantShown(t, c, nums(5, 0, 1, 0), 2, map[int]int64{0: 12, 1: 12, 2: 6})
}

// toldBy answers by which value a mark in the block 1 tells the variable 0, and how many times that.
func toldBy(t *testing.T, c api.Code) (int, int64) {
	t.Helper()
	for _, x := range mustRun(t, c).Funs[0].Blocks[1].Insts {
		if x.Op == api.IMark {
			return x.Dbg[0].Arg, x.Dbg[0].A
		}
	}
	t.Fatal("no mark")
	return 0, 0
}

// TestToldByWhoIsAskedFor: by the counter, where anybody asks for that, or for what it is next, as for the sum there may be nobody; by the sum, where nobody does.
func TestToldByWhoIsAskedFor(t *testing.T) {
	head := []api.Inst{Inst(api.Mul, 6, 4, 3), Mark(IsValue(0, 6, 5, 1)), Show(6), Inst(api.Add, 5, 4, 2)}
	for _, x := range []struct {
		name  string
		asks  api.Inst
		count bool
	}{
		{"nobody", Mark(IsValue(0, 4, 1, 0)), false},
		{"the counter", Show(4), true},
		{"the counter, for a sum", Inst(api.Add, 7, 4, 3), true},
		{"what it is next", Show(5), true},
		{"the product", Show(6), false},
		{"a product of the counter", Inst(api.Mul, 7, 4, 2), false},
		{"a product of the product", Inst(api.Mul, 7, 6, 2), false},
	} {
		c := turn(2, 12, append(head[:4:4], x.asks)...)
		c.Funs[0].Blocks[2] = Ends()
		hold(t, c, nums(3, 8, 1, 1, 0), 100)
		if v, n := toldBy(t, c); (v == 4) != x.count || x.count && n != 60 || !x.count && n != 5 {
			t.Errorf("%s: it is told by %d times %d", x.name, n, v)
		}
	}
	// A branch, an answer, a phi of another block.
	for i, b := range []api.Block{Ends(Show(1)), Answers(4), Answers(5), Behind(Ends(Show(8)), Phi(8, 4)), Behind(Ends(Show(8)), Phi(8, 5))} {
		c := turn(2, 12, head...)
		c.Funs[0].Blocks[2] = b
		if v, _ := toldBy(t, c); (v == 4) != (i > 0) {
			t.Errorf("behind %d it is told by %d", i, v)
		}
	}
	c := turn(2, 12, head...)
	c.Funs[0].Blocks[1].Arg, c.Funs[0].Blocks[2] = 4, Ends()
	if v, _ := toldBy(t, c); v != 4 {
		t.Errorf("where a branch asks for the counter it is told by %d", v)
	}
}
