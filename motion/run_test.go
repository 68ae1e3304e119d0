package motion_test

import (
	"reflect"
	"testing"

	"teasel/api"
	"teasel/code"
	"teasel/motion"
	. "teasel/parts"
)

// TestExampleOfTheChapter: while i < n { s = s + a * b; .. }.
func TestExampleOfTheChapter(t *testing.T) {
	c := Main(
		Goes(1, Read(0), Read(1), Read(2), Number(3, 0), Number(4, 1)),
		Behind(Branch(7, 2, 3, Inst(api.Lt, 7, 5, 0)), Phi(5, 3, 10), Phi(6, 3, 9)),
		Goes(1, Inst(api.Mul, 8, 1, 2), Inst(api.Add, 9, 6, 8), Inst(api.Add, 10, 5, 4)),
		Ends(Show(6)))
	wantBlocks(t, c,
		Goes(1, Read(0), Read(1), Read(2), Number(3, 0), Number(4, 1), Inst(api.Mul, 8, 1, 2)),
		Behind(Branch(7, 2, 3, Inst(api.Lt, 7, 5, 0)), Phi(5, 3, 10), Phi(6, 3, 9)),
		Goes(1, Inst(api.Add, 9, 6, 8), Inst(api.Add, 10, 5, 4)),
		Ends(Show(6)))
	holdEnd(t, c, api.Halt, nums(3, 4, 5), 60)
	holdEnd(t, c, api.Halt, nums(0, 4, 5), 0)
}

// TestEnteredFromOneBlock: that goes on to the head alone: it is the one ahead.
func TestEnteredFromOneBlock(t *testing.T) {
	c := Main(Goes(1, Read(0)), Goes(2, Read(1)), Behind(Branch(4, 2, 3, Number(3, 5), Read(4)), Phi(2, 1, 3)), Ends(Show(2)))
	wantBlocks(t, c, Goes(1, Read(0)), Goes(2, Read(1), Number(3, 5)), Behind(Branch(4, 2, 3, Read(4)), Phi(2, 1, 3)), Ends(Show(2)))
	holdEnd(t, c, api.Halt, nums(7, 8, 1, 1, 0), 5)
	holdEnd(t, c, api.Halt, nums(7, 8, 0), 8)
}

// TestEnteredFromABranch: on either of its ways: a new block stands between.
func TestEnteredFromABranch(t *testing.T) {
	for _, x := range []struct {
		first, want api.Block
		in, out     int64
	}{
		{Branch(0, 1, 2, Read(0)), Branch(0, 3, 2, Read(0)), 6, 0},
		{Branch(0, 2, 1, Read(0)), Branch(0, 2, 3, Read(0)), 0, 6},
	} {
		c := Main(x.first, Behind(Branch(3, 1, 2, Number(2, 5), Read(3), Show(1)), Phi(1, 0, 2)), Ends())
		wantBlocks(t, c, x.want, Behind(Branch(3, 1, 2, Read(3), Show(1)), Phi(1, 2, 0)), Ends(), Goes(1, Number(2, 5)))
		holdEnd(t, c, api.Halt, nums(x.in, 1, 0), x.in, 5)
		holdEnd(t, c, api.Halt, nums(x.out, 1, 0))
	}
}

// TestEnteredFromSeveral: their ways lead to a new block; what the phis of the head take from them is a phi there, unless it is one value.
func TestEnteredFromSeveral(t *testing.T) {
	c := Main(
		Branch(0, 1, 2, Read(0), Read(1), Read(2)),
		Goes(4),
		Branch(1, 4, 3),
		Goes(4, Read(3)),
		Behind(Branch(9, 5, 4, Read(9), Show(4), Show(5), Show(6), Number(7, 1)), Phi(4, 0, 1, 2, 5), Phi(5, 1, 1, 1, 4), Phi(6, 2, 0, 1, 7)),
		Ends())
	wantBlocks(t, c,
		Branch(0, 1, 2, Read(0), Read(1), Read(2)),
		Goes(6),
		Branch(1, 6, 3),
		Goes(6, Read(3)),
		Behind(Branch(9, 5, 4, Read(9), Show(4), Show(5), Show(6)), Phi(4, 5, 8), Phi(5, 4, 1), Phi(6, 7, 10)),
		Ends(),
		Behind(Goes(4, Number(7, 1)), Phi(8, 0, 1, 2), Phi(10, 2, 0, 1)))
	holdEnd(t, c, api.Halt, nums(1, 8, 9, 0, 1), 1, 8, 9, 8, 1, 1)
	holdEnd(t, c, api.Halt, nums(0, 8, 9, 0, 1), 8, 8, 0, 8, 8, 1)
	holdEnd(t, c, api.Halt, nums(0, 0, 9, 7, 0, 1), 9, 0, 0, 0, 9, 1)
}

// TestSeveralWaysBack: to one head: they are of one loop, and stay.
func TestSeveralWaysBack(t *testing.T) {
	c := Main(
		Branch(0, 1, 5, Read(0), Number(8, 4)),
		Behind(Branch(2, 2, 3, Read(2), Show(1)), Phi(1, 0, 3, 5, 7)),
		Branch(4, 1, 5, Number(3, 10), Read(4)),
		Branch(6, 1, 4, Inst(api.Neg, 5, 8), Read(6), Number(9, 3)),
		Goes(1, Inst(api.Add, 7, 1, 0)),
		Ends())
	wantHome(t, c, 6, 3, 5, 9)
	wantStay(t, c, 7, 8)
	if b := mustRun(t, c).Funs[0].Blocks[1]; len(b.Phis) != 1 || !reflect.DeepEqual(b.Phis[0], Phi(1, 3, 5, 7, 0)) {
		t.Errorf("%+v", b)
	}
	holdEnd(t, c, api.Halt, nums(6, 1, 1, 0, 1, 0, 0, 1, 0), 6, 10, -4, 2)
}

// nest is three loops in one another; in the innermost one some instructions are done. The values 0 and 1 are read, 2 and 3 are phis of the outer heads, 4 is one of the innermost head.
func nest(insts ...api.Inst) api.Code {
	return Main(
		Goes(1, Read(0), Read(1)),
		Behind(Goes(2, Inst(api.Not, 10, 2)), Phi(2, 0, 15)),
		Behind(Goes(3, Inst(api.Not, 11, 3)), Phi(3, 1, 14)),
		Behind(Branch(5, 3, 4, append(insts, Read(5))...), Phi(4, 0, 13)),
		Branch(6, 2, 5, Read(6)),
		Branch(7, 1, 6, Read(7)),
		Ends(Show(13), Show(14), Show(15)))
}

// TestOutOfSeveralLoops: each as far out as it may stand.
func TestOutOfSeveralLoops(t *testing.T) {
	c := nest(Number(20, 3), Inst(api.Add, 21, 0, 1), Inst(api.Mul, 22, 21, 20), Inst(api.Add, 23, 2, 20), Inst(api.Sub, 24, 22, 23), Inst(api.Xor, 25, 3, 24), Inst(api.ICopy, 26, 25), Inst(api.Add, 13, 4, 26), Inst(api.Neg, 14, 26), Inst(api.Not, 15, 24))
	wantHome(t, c, 0, 20, 21, 22)
	wantHome(t, c, 1, 23, 24, 15, 10)
	wantHome(t, c, 2, 25, 26, 14, 11)
	wantHome(t, c, 3, 13)
	for _, in := range [][]int64{{5, 6, 0, 0, 0}, {5, 6, 1, 1, 0, 1, 0, 1, 1, 0, 0, 1, 0, 0, 0}, {5, 6, 1, 0, 1, 1, 1, 0, 0, 0}} {
		if end := hold(t, c, in, 500); end != api.Halt {
			t.Error(end)
		}
	}
}

// TestRowsStayInOrder: of what goes to one block, each stands behind that from which it is made.
func TestRowsStayInOrder(t *testing.T) {
	row := []api.Inst{Number(13, 1), Inst(api.Add, 14, 13, 0), Inst(api.Mul, 20, 14, 14), Inst(api.Sub, 21, 13, 20), Inst(api.Shl, 15, 21, 13), Number(22, 7)}
	d := mustRun(t, nest(row...))
	if l := d.Funs[0].Blocks[0].Insts; !reflect.DeepEqual(l[2:], row) {
		t.Errorf("%+v", l)
	}
	holdEnd(t, nest(row...), api.Halt, nums(6, 7, 0, 0, 0), 1, 7, -96)
}

// TestEachPureInstruction: is moved, if nothing from which it is made is made in the loop; and stays, if one Arg is.
func TestEachPureInstruction(t *testing.T) {
	tried := 0
	for op := range byte(60) {
		if !code.Pure(op) {
			continue
		}
		tried++
		n, _, _ := code.Shape(op)
		loop := func(args ...int) api.Code {
			return Main(Goes(1, Read(0), Read(1)), Behind(Branch(4, 1, 2, Inst(op, 3, args[:n]...), Read(4), Show(3)), Phi(2, 0, 4)), Ends(Show(3)))
		}
		for _, args := range [][]int{{0, 1}, {1, 1}} {
			wantHome(t, loop(args...), 0, 3)
			hold(t, loop(args...), nums(3, 4, 1, 1, 0), 99)
		}
		if n > 0 {
			wantStay(t, loop(2, 1), 3)
			hold(t, loop(2, 0), nums(3, 4, 1, 1, 0), 99)
		}
		if n > 1 {
			wantStay(t, loop(0, 2), 3)
			wantStay(t, loop(2, 2), 3)
			hold(t, loop(0, 2), nums(3, 4, 1, 1, 0), 99)
		}
	}
	if tried != 14+3+2 {
		t.Error(tried)
	}
}

// TestMadeInTheLoop: from a phi of the head, or of another block, a read, a load, a call, a length, an array in the loop, or from how much is in use; by way of others, too.
func TestMadeInTheLoop(t *testing.T) {
	array := api.Inst{Op: api.IAlloc, Dst: 0, Imm: 3}
	for _, x := range []api.Inst{Read(4), Inst(api.ILoad, 4, 0, 1), Call(4, 1), Inst(api.ILen, 4, 0), Inst(api.ITop, 4), {Op: api.IAlloc, Dst: 4, Imm: 2}, Inst(api.Div, 4, 1, 9), Inst(api.Rem, 4, 1, 9)} {
		c := Program(
			Fun(0,
				Goes(1, array, Number(1, 1), Number(9, 2)),
				Behind(Branch(7, 1, 2, x, Inst(api.Neg, 5, 4), Inst(api.Add, 6, 5, 1), Read(7), Show(6)), Phi(2, 1, 6)),
				Ends(Show(5), Show(2))),
			Fun(0, Answers(0, Read(0))))
		wantStay(t, c, 4, 5, 6)
		hold(t, c, nums(3, 1, 4, 1, 5, 0, 0, 0), 99)
	}
	c := Main(
		Goes(1, Read(0), Read(1)),
		Branch(2, 2, 3, Read(2)), Goes(4), Goes(4),
		Behind(Branch(5, 1, 5, Inst(api.Not, 4, 3), Show(4), Read(5)), Phi(3, 0, 1)),
		Ends())
	wantStay(t, c, 3, 4)
	holdEnd(t, c, api.Halt, nums(6, 7, 0, 1, 1, 0), -8, -7)
}

// TestWhatIsNotPureStays: though nothing from which it is made is made in the loop.
func TestWhatIsNotPureStays(t *testing.T) {
	array := api.Inst{Op: api.IAlloc, Dst: 0, Imm: 3}
	for _, x := range []api.Inst{
		Inst(api.Div, 3, 1, 2), Inst(api.Rem, 3, 1, 2), Inst(api.ILoad, 3, 0, 2), Inst(api.ILen, 3, 0), Inst(api.ITop, 3), {Op: api.IAlloc, Dst: 3, Imm: 4}, Read(3), Call(3, 1, 2),
		Inst(api.IStore, -1, 0, 2, 1), Inst(api.IFree, -1, 9), Show(2), Mark(IsValue(0, 1, 1, 0)), Call(-1, 1, 2),
	} {
		c := Program(
			Fun(0, Goes(1, array, Number(1, 8), Number(2, 2), Inst(api.ITop, 9)), Branch(4, 1, 2, x, Read(4)), Ends(Show(1))),
			Fun(1, Answers(0, Param(0, 0), Show(0))))
		if l := mustRun(t, c).Funs[0].Blocks[1].Insts; len(l) != 2 || !reflect.DeepEqual(l[0], x) {
			t.Errorf("%+v, want first %+v", l, x)
		}
		hold(t, c, nums(1, 1, 1, 0, 0), 99)
	}
}

// TestTrapsStayWhereTheyWere: a division by nought in a loop that is left, or not entered, is not done.
func TestTrapsStayWhereTheyWere(t *testing.T) {
	c := Main(
		Branch(2, 1, 3, Number(0, 1), Read(1), Read(2)),
		Branch(3, 2, 3, Read(3), Show(3)),
		Branch(6, 1, 3, At(2, Inst(api.Div, 4, 0, 1)), At(4, Inst(api.Rem, 5, 4, 1)), Read(6)),
		Ends(Show(0)))
	wantStay(t, c, 4, 5)
	holdEnd(t, c, api.Halt, nums(0, 0), 1)
	holdEnd(t, c, api.Halt, nums(0, 1, 0), 0, 1)
	holdEnd(t, c, api.TrapZero, nums(0, 1, 5), 5)
	holdEnd(t, c, api.Halt, nums(2, 1, 5, 1, 0), 5, 0, 1)
}

// TestLoopsThatShareABlock: the one in which two loops end goes back to both heads.
func TestLoopsThatShareABlock(t *testing.T) {
	c := Main(
		Branch(0, 1, 5, Read(0)),
		Behind(Goes(2, Number(10, 4)), Phi(1, 0, 3)),
		Behind(Branch(4, 3, 4, Read(4), Inst(api.Add, 3, 2, 10), Inst(api.Mul, 11, 1, 10), Show(11)), Phi(2, 1, 11)),
		Branch(5, 1, 2, Read(5), Number(12, 9), Inst(api.Sub, 13, 12, 1), Show(13)),
		Ends(Show(2)),
		Ends())
	wantHome(t, c, 6, 10, 12)
	wantHome(t, c, 1, 11, 13)
	wantStay(t, c, 3)
	holdEnd(t, c, api.Halt, nums(3, 1, 0, 1, 1, 0), 12, 6, 12, 6, 64, 16)
	holdEnd(t, c, api.Halt, nums(3, 1, 1, 0), 12, 6, 28, 7)
}

// TestWaysThatEndInALoop: what stands on a way out is in no loop, and stays.
func TestWaysThatEndInALoop(t *testing.T) {
	c := Main(
		Branch(0, 1, 4, Read(0)),
		Branch(1, 2, 3, Read(1)),
		Answers(5, Number(5, 8), Inst(api.Add, 6, 5, 0), Show(6)),
		Branch(2, 1, 5, Read(2), Number(3, 1), Show(3)),
		Ends(),
		Goes(5, Number(4, 2)))
	wantStay(t, c, 5, 6)
	wantHome(t, c, 7, 4)
	wantHome(t, c, 6, 3)
	holdEnd(t, c, api.Halt, nums(7, 1), 15)
	holdEnd(t, c, api.Halt, nums(7, 0, 1, 1), 1, 15)
	if end := hold(t, c, nums(7, 0, 0), 50); end != api.StopFuel {
		t.Error(end)
	}
}

// TestWaysRoundThatAreNoLoop: entered in the middle: nothing is moved out of them alone, but out of a loop around them.
func TestWaysRoundThatAreNoLoop(t *testing.T) {
	c := Main(Branch(0, 1, 2, Read(0)), Branch(1, 2, 3, Read(1), Number(2, 4), Show(2)), Goes(1, Number(3, 5), Show(3)), Ends())
	want := Main(Branch(0, 1, 2, Read(0)), Branch(1, 2, 3, Read(1), Number(2, 4), Show(2)), Goes(1, Number(3, 5), Show(3)), Ends())
	wantBlocks(t, c, want.Funs[0].Blocks...)
	holdEnd(t, c, api.Halt, nums(0, 1, 0), 5, 4, 5, 4)
	c = Main(
		Goes(1, Read(0)),
		Branch(1, 2, 3, Read(1)),
		Branch(2, 3, 4, Read(2), Number(5, 4), Inst(api.Add, 6, 5, 1), Show(6)),
		Goes(2, Number(7, 5), Inst(api.Neg, 8, 7), Show(8)),
		Branch(3, 1, 5, Read(3)),
		Ends())
	wantHome(t, c, 0, 5, 7, 8)
	wantStay(t, c, 6)
	holdEnd(t, c, api.Halt, nums(9, 0, 1, 0, 1, 1, 0, 0), -5, 4, -5, 4, 5)
}

// TestNothingToDo: code without loops, and loops with nothing that is the same each time, stay as they are.
func TestNothingToDo(t *testing.T) {
	for _, c := range []api.Code{
		Main(Ends()),
		Main(Branch(0, 1, 2, Read(0), Number(1, 3)), Goes(3, Number(2, 3)), Goes(3), Behind(Answers(3, Number(4, 1)), Phi(3, 2, 1))),
		Main(Goes(1, Read(0)), Behind(Branch(2, 1, 2, Read(2), Inst(api.Add, 3, 1, 2)), Phi(1, 0, 3)), Ends(Number(4, 4))),
	} {
		if d := mustRun(t, c); !reflect.DeepEqual(d, c) {
			t.Errorf("%+v, want\n%+v", d, c)
		}
	}
}

// TestAllFunctions: each by itself, whatever their number.
func TestAllFunctions(t *testing.T) {
	loop := func(n int64) api.Fun {
		return Fun(1, Branch(0, 1, 2, Param(0, 0)), Branch(1, 1, 2, Read(1), Number(2, n), Show(2)), Ends())
	}
	c := Program(Fun(0, Ends(Number(0, 1), Call(-1, 1, 0), Call(-1, 2, 0), Call(-1, 3, 0))), loop(5), loop(6), loop(7))
	d := mustRun(t, c)
	for i, f := range d.Funs[1:] {
		if len(f.Blocks) != 4 || !reflect.DeepEqual(f.Blocks[3], Goes(1, Number(2, int64(5+i)))) {
			t.Errorf("%+v", f)
		}
	}
	holdEnd(t, c, api.Halt, nums(1, 0, 0, 1, 1, 0), 5, 5, 6, 7, 7, 7)
}

// TestWhatIsNotLookedAt: isn't kept.
func TestWhatIsNotLookedAt(t *testing.T) {
	c := Main(Goes(1, Read(0)), Branch(1, 1, 2, Read(1), Mark(IsNumber(3, 8))), Ends())
	want := code.Copy(c)
	l := c.Funs[0].Blocks
	l[0].Else, l[0].Arg, l[2].To, l[2].Else, l[2].Arg, c.Funs[0].Vars = 1, 99, 1, -4, 7, 3
	l[0].Insts[0].Dbg = []api.Dbg{{Kind: 77}}
	l[1].Insts[1].Dbg[0].Arg, l[1].Insts[1].Dbg[0].A = 12345, -6
	if d, e := motion.Run(c); e != api.OK || !reflect.DeepEqual(d, want) {
		t.Errorf("%d: %+v, want\n%+v", e, d, want)
	}
}

// TestASecondRun: finds nothing more.
func TestASecondRun(t *testing.T) {
	c := nest(Number(20, 3), Inst(api.Add, 13, 4, 20), Inst(api.Mul, 14, 3, 20), Inst(api.Shl, 15, 20, 1))
	d := mustRun(t, c)
	if again := mustRun(t, d); !reflect.DeepEqual(again, d) {
		t.Errorf("%+v, want\n%+v", again, d)
	}
}
