package fold_test

import (
	"math"
	"testing"

	"teasel/api"
	"teasel/code"
	. "teasel/parts"
	"teasel/source"
)

// TestExampleOfTheChapter: the branch goes on to one block, and the other one is gone.
func TestExampleOfTheChapter(t *testing.T) {
	c := Main(Branch(2, 1, 2, Number(0, 2), Number(1, 3), Inst(api.Add, 2, 0, 1)), Answers(2, Show(0)), Answers(0, Show(1)))
	d := mustRun(t, c)
	f := d.Funs[0]
	if len(f.Blocks) != 2 || f.Blocks[0].End != api.GoTo || f.Blocks[0].To != 1 || f.Blocks[1].End != api.RetVal || f.Blocks[1].Arg != 2 {
		t.Errorf("%+v", f)
	}
	holdEnd(t, c, api.Halt, nil, 2)
	wantNumber(t, c, 2, 5)
}

// TestEachPureOperation: with numbers from the edges, it is what source says that it is.
func TestEachPureOperation(t *testing.T) {
	edges := nums(math.MinInt64, math.MinInt64+1, -65, -64, -1, 0, 1, 2, 3, 63, 64, 65, 1<<32, math.MaxInt64)
	had := 0
	for op := range byte(50) {
		if !code.Pure(op) || op == api.IConst {
			continue
		}
		had++
		args, _, _ := code.Shape(op)
		for _, a := range edges {
			for _, b := range edges {
				want, _ := source.Value(op, a, b)
				if op == api.ICopy {
					want = a
				}
				c := Main(Answers(2, Number(0, a), Number(1, b), Inst(op, 2, []int{0, 1}[:args]...), Show(2)))
				wantNumber(t, c, 2, want)
				holdEnd(t, c, api.Halt, nil, want)
			}
		}
	}
	if had != 14+3+1 {
		t.Error("there are so many pure operations:", had)
	}
}

// TestOneNumberIsNotEnough: of two values one alone is known.
func TestOneNumberIsNotEnough(t *testing.T) {
	for _, op := range []byte{api.Add, api.Sub, api.Mul, api.And, api.Or, api.Xor, api.Shl, api.Shr, api.Lt, api.Le, api.Gt, api.Ge, api.Eq, api.Ne, api.Div, api.Rem} {
		for _, n := range nums(-3, -1, 0, 1, 5) {
			c := Main(Answers(3, Number(0, n), Read(1), Inst(op, 2, 1, 0), Show(2), Inst(op, 3, 0, 1), Show(3)))
			for _, in := range nums(-7, 0, 6) {
				hold(t, c, nums(in), 50)
			}
			if d := mustRun(t, c); Count(d, op) != 2 {
				t.Errorf("%d: %+v", op, d.Funs[0])
			}
		}
	}
}

// TestDivisionsOfNumbers: by 0 they trap still, where they did; else they are known.
func TestDivisionsOfNumbers(t *testing.T) {
	for _, op := range []byte{api.Div, api.Rem} {
		for _, a := range nums(math.MinInt64, -7, 0, 7, math.MaxInt64) {
			for _, b := range nums(math.MinInt64, -2, -1, 1, 2, math.MaxInt64) {
				want, _ := source.Value(op, a, b)
				c := Main(Answers(2, Number(0, a), Number(1, b), At(3, Inst(op, 2, 0, 1)), Show(2)))
				wantNumber(t, c, 2, want)
				holdEnd(t, c, api.Halt, nil, want)
			}
			c := Main(Answers(2, Number(0, a), Number(1, 0), Show(0), At(3, Inst(op, 2, 0, 1)), Show(2), Inst(api.Add, 3, 2, 0), Show(3)))
			holdEnd(t, c, api.TrapZero, nil, a)
			if d := mustRun(t, c); Count(d, op) != 1 || Count(d, api.Add) != 1 {
				t.Errorf("%+v", d.Funs[0])
			}
		}
	}
	c := Main(Answers(2, Number(0, math.MinInt64), Number(1, -1), Inst(api.Div, 2, 0, 1), Show(2), Inst(api.Rem, 3, 0, 1), Show(3)))
	holdEnd(t, c, api.Halt, nil, math.MinInt64, 0)
	wantNumber(t, c, 2, math.MinInt64)
	wantNumber(t, c, 3, 0)
}

// TestADivisionThatIsNotReached: it doesn't trap, and is gone with its block; one that becomes a division by 0 stays.
func TestADivisionThatIsNotReached(t *testing.T) {
	c := Main(Branch(0, 1, 2, Number(0, 0), Number(1, 8)), Goes(2, Inst(api.Div, 2, 1, 0), Show(2)), Ends(Show(1)))
	holdEnd(t, c, api.Halt, nil, 8)
	wantBlocks(t, c, 2)
	c = Main(Ends(Number(0, 4), Inst(api.Sub, 1, 0, 0), At(2, Inst(api.Rem, 2, 0, 1)), Show(2)))
	holdEnd(t, c, api.TrapZero, nil)
}

// TestBranches: by any number but 0 to the one block, by 0 to the other one.
func TestBranches(t *testing.T) {
	for _, n := range nums(math.MinInt64, -1, 0, 1, 2, 1<<32) {
		c := Main(Branch(0, 2, 1, Number(0, n)), Ends(Number(1, 10), Show(1)), Ends(Number(2, 20), Show(2)))
		want := int64(20)
		if n == 0 {
			want = 10
		}
		holdEnd(t, c, api.Halt, nil, want)
		wantBlocks(t, c, 2)
	}
	c := Main(Branch(0, 2, 1, Read(0)), Ends(Show(0)), Answers(0))
	wantBlocks(t, c, 3)
	holdEnd(t, c, api.Halt, nums(0), 0)
	holdEnd(t, c, api.Halt, nums(7))
}

// TestBranchesInBranches: what a branch that isn't reached would reach isn't reached either; what others reach is.
func TestBranchesInBranches(t *testing.T) {
	c := Main(
		Branch(0, 1, 2, Number(0, 1), Number(1, 0), Read(9)),
		Branch(1, 3, 4),
		Branch(9, 3, 5),
		Goes(5, Show(0)),
		Branch(9, 6, 7, Show(1)),
		Ends(Show(9)),
		Goes(7, Show(9)),
		Ends(Show(9), Show(0)))
	wantBlocks(t, c, 5)
	holdEnd(t, c, api.Halt, nums(5), 0, 5, 5, 1)
	holdEnd(t, c, api.Halt, nums(0), 0, 0, 1)
}

// TestBothWaysLeadToOneBlock: by way of one more block, or not; the phis there take what comes on the way that is left.
func TestBothWaysLeadToOneBlock(t *testing.T) {
	for _, n := range nums(0, 1) {
		c := Main(Branch(0, 1, 2, Number(0, n), Read(1), Read(2)), Goes(2), Behind(Ends(Show(3), Show(4)), Phi(3, 1, 2), Phi(4, 2, 1)))
		if n == 0 {
			holdEnd(t, c, api.Halt, nums(5, 6), 5, 6)
			wantBlocks(t, c, 2)
		} else {
			holdEnd(t, c, api.Halt, nums(5, 6), 6, 5)
			wantBlocks(t, c, 3)
		}
		c = Main(Branch(0, 1, 2, Number(0, n), Read(1), Read(2)), Goes(3), Goes(3), Behind(Ends(Show(3), Show(4)), Phi(3, 1, 2), Phi(4, 2, 1)))
		holdEnd(t, c, api.Halt, nums(5, 6), 5+1-n, 5+n)
		wantBlocks(t, c, 3)
	}
}

// TestPhisLoseArgs: those that came from blocks that aren't reached any more, wherever they stood.
func TestPhisLoseArgs(t *testing.T) {
	for gone := range 4 {
		blocks := []api.Block{Branch(0, 1, 2, Read(0), Read(1), Read(2), Read(3), Read(4), Number(5, 0)), Branch(1, 3, 4), Branch(2, 5, 6)}
		// A way leads to the four blocks behind them, by three branches, one way of which is never gone.
		blocks[1+gone/2].Arg = 5
		if gone%2 == 1 {
			blocks[1+gone/2].To, blocks[1+gone/2].Else = blocks[1+gone/2].Else, blocks[1+gone/2].To
		}
		for n := range 4 {
			blocks = append(blocks, Goes(7, Number(10+n, int64(n))))
		}
		blocks = append(blocks, Behind(Ends(Show(20), Show(21), Show(22)), Phi(20, 1, 2, 3, 4), Phi(21, 10, 11, 12, 13), Phi(22, 4, 3, 2, 1)))
		c := Main(blocks...)
		wantBlocks(t, c, 7)
		if x := made(t, mustRun(t, c), 20); len(x.Args) != 3 {
			t.Errorf("%+v", x)
		}
		for way := range int64(8) {
			hold(t, c, nums(way&1, way>>1&1, way>>2&1, 77, 88), 99)
		}
	}
}

// TestPhisOfNumbers: with one Imm they are known, with others not.
func TestPhisOfNumbers(t *testing.T) {
	phi := func(a, b int64) api.Code {
		return Main(Branch(0, 1, 2, Read(0)), Goes(3, Number(1, a)), Goes(3, Number(2, b)), Behind(Answers(4, Inst(api.Add, 4, 3, 3), Show(3)), Phi(3, 1, 2)))
	}
	c := phi(7, 7)
	wantNumber(t, c, 3, 7)
	wantNumber(t, c, 4, 14)
	holdEnd(t, c, api.Halt, nums(1), 7)
	c = phi(7, 8)
	holdEnd(t, c, api.Halt, nums(1), 7)
	holdEnd(t, c, api.Halt, nums(0), 8)
	if d := mustRun(t, c); Count(d, api.IPhi) != 1 || Count(d, api.Add) != 1 {
		t.Errorf("%+v", d)
	}
}

// TestPhisByWayOfOthers: phis of phis, in loops, too, where each one hangs on the other.
func TestPhisByWayOfOthers(t *testing.T) {
	c := Main(
		Branch(0, 1, 2, Read(0), Number(1, 4)),
		Goes(3),
		Goes(3, Number(2, 4)),
		Behind(Branch(0, 4, 5), Phi(3, 1, 2)),
		Goes(5, Number(4, 2), Inst(api.Add, 5, 4, 4)),
		Behind(Answers(6, Show(6)), Phi(6, 3, 5)))
	wantNumber(t, c, 3, 4)
	wantNumber(t, c, 6, 4)
	holdEnd(t, c, api.Halt, nums(3), 4)
	c = Main(
		Goes(1, Number(0, 9), Number(1, 1), Read(2)),
		Behind(Branch(5, 2, 3, Show(3), Inst(api.Sub, 5, 6, 1)), Phi(3, 0, 4), Phi(6, 2, 5)),
		Behind(Goes(1, Inst(api.ICopy, 4, 7)), Phi(7, 3)),
		Answers(3))
	wantNumber(t, c, 3, 9)
	wantNumber(t, c, 4, 9)
	wantNumber(t, c, 7, 9)
	holdEnd(t, c, api.Halt, nums(3), 9, 9, 9)
}

// TestExchangedInALoop: two that are the same number stay that, two others don't.
func TestExchangedInALoop(t *testing.T) {
	loop := func(a, b int64) api.Code {
		return Main(
			Goes(1, Number(0, a), Number(1, b), Read(2), Number(3, 1)),
			Behind(Branch(7, 1, 2, Show(4), Inst(api.Sub, 7, 6, 3)), Phi(4, 0, 5), Phi(5, 1, 4), Phi(6, 2, 7)),
			Answers(4, Show(4), Show(5)))
	}
	c := loop(6, 6)
	wantNumber(t, c, 4, 6)
	wantNumber(t, c, 5, 6)
	holdEnd(t, c, api.Halt, nums(2), 6, 6, 6, 6)
	c = loop(6, 5)
	holdEnd(t, c, api.Halt, nums(3), 6, 5, 6, 6, 5)
	if n := Count(mustRun(t, c), api.IPhi); n != 3 {
		t.Error(n)
	}
}

// TestKnownAsSomethingElseIs: in a loop a branch is known as long as a variable stays what it is, which it does as long as the branch is known.
func TestKnownAsSomethingElseIs(t *testing.T) {
	loop := func(n int64) api.Code {
		return Main(
			Goes(1, Number(0, 1), Read(1), Number(2, n)),
			Behind(Branch(8, 2, 5, Inst(api.Eq, 5, 3, 0), Inst(api.Sub, 8, 4, 0)), Phi(3, 0, 7), Phi(4, 1, 8)),
			Branch(5, 4, 3),
			Goes(4, Number(6, n)),
			Behind(Goes(1, Show(7)), Phi(7, 3, 6)),
			Answers(3, Show(3)))
	}
	c := loop(2)
	wantNumber(t, c, 3, 1)
	wantBlocks(t, c, 5)
	holdEnd(t, c, api.Halt, nums(3), 1, 1, 1)
	// If it is set ahead, nothing is known.
	c = loop(2)
	c.Funs[0].Blocks[1].Phis[0].Args[0] = 2
	wantBlocks(t, c, 6)
	holdEnd(t, c, api.Halt, nums(3), 2, 2, 2)
}

// TestALoopThatIsNeverEntered: and one that is never left.
func TestALoopThatIsNeverEntered(t *testing.T) {
	loop := func(n int64) api.Code {
		return Main(
			Goes(1, Number(0, n), Number(1, 3), Read(2)),
			Behind(Branch(0, 2, 3), Phi(3, 1, 4)),
			Goes(1, Inst(api.Add, 4, 3, 2), Show(4)),
			Answers(3, Show(3)))
	}
	c := loop(0)
	wantBlocks(t, c, 3)
	wantNumber(t, c, 3, 3)
	holdEnd(t, c, api.Halt, nums(5), 3)
	c = loop(1)
	wantBlocks(t, c, 3)
	if end := hold(t, c, nums(1), 100); end != api.StopFuel {
		t.Error(end)
	}
}

// TestCountersAreNotKnown: though each begins as a number, and steps by one.
func TestCountersAreNotKnown(t *testing.T) {
	c := Main(
		Goes(1, Number(0, 0), Number(1, 1), Number(2, 3)),
		Behind(Branch(4, 2, 3, Inst(api.Lt, 4, 3, 2)), Phi(3, 0, 5)),
		Goes(1, Inst(api.Add, 5, 3, 1), Show(3)),
		Answers(3))
	holdEnd(t, c, api.Halt, nil, 0, 1, 2)
	wantBlocks(t, c, 4)
}

// TestChainsOfNumbers: through each other, long ones.
func TestChainsOfNumbers(t *testing.T) {
	l := []api.Inst{Number(0, 1)}
	for v := 1; v < 20000; v++ {
		l = append(l, Inst(api.Add, v, v-1, v-1))
		if v%2 == 0 {
			l[v] = Inst(api.Not, v, v-1)
		}
	}
	l = append(l, Show(19999))
	c := Main(Answers(19999, l...))
	c.Funs[0].Vals = 20000
	d := mustRun(t, c)
	if Count(d, api.Add)+Count(d, api.Not) != 0 || Count(d, api.IConst) != 20000 {
		t.Error(Count(d, api.Add), Count(d, api.Not))
	}
	if end := hold(t, c, nil, 30000); end != api.Halt {
		t.Error(end)
	}
}

// TestWhatIsNotKnown: what others make than operations, though all that they are given is known.
func TestWhatIsNotKnown(t *testing.T) {
	c := Program(
		Fun(0, Answers(8, Number(0, 1), Number(1, 0), Inst(api.ITop, 2), api.Inst{Op: api.IAlloc, Dst: 3, Imm: 2}, Inst(api.IStore, -1, 3, 1, 0), Inst(api.ILoad, 4, 3, 1), Inst(api.ILen, 5, 3), Call(6, 1, 0), Inst(api.IFree, -1, 2), Call(-1, 1, 0), Read(7), Inst(api.Add, 8, 7, 6), Inst(api.Add, 9, 4, 5), Show(9), Show(8))),
		Fun(1, Answers(1, Param(0, 0), Inst(api.Add, 1, 0, 0), Show(1))))
	holdEnd(t, c, api.Halt, nums(4), 2, 2, 3, 6)
	if d := mustRun(t, c); code.Size(d) != code.Size(c) || Count(d, api.IConst) != 2 {
		t.Errorf("%+v", d)
	}
}
