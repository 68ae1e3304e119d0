package alloc_test

import (
	"reflect"
	"testing"

	"teasel/api"
	. "teasel/parts"
)

// wantBlocks holds what the blocks of a function become, all of them, and how a run of the code ends.
func wantBlocks(t *testing.T, name string, c api.Code, fn int, want ...api.Block) {
	t.Helper()
	got := mustSplit(t, c).Funs[fn].Blocks
	if !reflect.DeepEqual(got, want) {
		t.Errorf("%s: the blocks are\n%s, want\n%s", name, told(got), told(want))
	}
	for way := range int64(8) {
		holdSplit(t, c, numbers(way&1, way>>1&1, way>>2&1, 0, 1, 0, 1, 0, 0), 300)
	}
}

// wantSame holds that there is nothing to be parted.
func wantSame(t *testing.T, name string, c api.Code) {
	t.Helper()
	wantBlocks(t, name, c, 0, c.Funs[0].Blocks...)
}

// TestABranchToWhereWaysMeet: its way is parted, and what the phis take of it goes behind the rest.
func TestABranchToWhereWaysMeet(t *testing.T) {
	c := Main(Branch(0, 2, 1, Read(0), Number(1, 5)), Goes(2, Read(2)), Behind(Ends(Mark(IsValue(0, 3, 1, 0)), Show(3), Show(4)), Phi(3, 1, 2), Phi(4, 0, 2)))
	wantBlocks(t, "the first way", c, 0,
		Branch(0, 3, 1, Read(0), Number(1, 5)), Goes(2, Read(2)), Behind(Ends(Mark(IsValue(0, 3, 1, 0)), Show(3), Show(4)), Phi(3, 2, 1), Phi(4, 2, 0)), Goes(2))
	c.Funs[0].Blocks[0].To, c.Funs[0].Blocks[0].Else = 1, 2
	wantBlocks(t, "the other way", c, 0,
		Branch(0, 1, 3, Read(0), Number(1, 5)), Goes(2, Read(2)), Behind(Ends(Mark(IsValue(0, 3, 1, 0)), Show(3), Show(4)), Phi(3, 2, 1), Phi(4, 2, 0)), Goes(2))
}

// TestBothWaysOfABranch: each to a block of its own that has phis; or both to one, where one of them comes by another block.
func TestBothWaysOfABranch(t *testing.T) {
	c := Main(Branch(0, 1, 2, Read(0), Number(1, 5)), Branch(2, 3, 4, Read(2)), Branch(3, 4, 3, Read(3)), Behind(Ends(Show(4)), Phi(4, 1, 3)), Behind(Ends(Show(5)), Phi(5, 2, 0)))
	wantBlocks(t, "four ways", c, 0,
		Branch(0, 1, 2, Read(0), Number(1, 5)), Branch(2, 5, 7, Read(2)), Branch(3, 8, 6, Read(3)), Behind(Ends(Show(4)), Phi(4, 1, 3)), Behind(Ends(Show(5)), Phi(5, 2, 0)), Goes(3), Goes(3), Goes(4), Goes(4))
	c = Main(Branch(0, 2, 1, Read(0), Number(1, 5)), Goes(2), Behind(Ends(Show(2)), Phi(2, 0, 1)))
	wantBlocks(t, "by another block", c, 0, Branch(0, 3, 1, Read(0), Number(1, 5)), Goes(2), Behind(Ends(Show(2)), Phi(2, 1, 0)), Goes(2))
	// Ways that are parted already stay.
	c = Main(Branch(0, 1, 2, Read(0), Number(1, 5)), Goes(3), Goes(3), Behind(Ends(Show(2)), Phi(2, 0, 1)))
	wantSame(t, "by two other blocks", c)
}

// TestLoopsThatABranchLeadsBack: from a block of the loop, from the head itself, and from two of its blocks.
func TestLoopsThatABranchLeadsBack(t *testing.T) {
	c := Main(Goes(1, Number(0, 0), Number(1, 1)), Behind(Goes(2, Mark(IsValue(0, 2, 1, 0))), Phi(2, 0, 3)), Branch(4, 1, 3, Inst(api.Add, 3, 2, 1), Show(3), Read(4)), Ends(Show(2)))
	wantBlocks(t, "a loop", c, 0,
		Goes(1, Number(0, 0), Number(1, 1)), Behind(Goes(2, Mark(IsValue(0, 2, 1, 0))), Phi(2, 0, 3)), Branch(4, 4, 3, Inst(api.Add, 3, 2, 1), Show(3), Read(4)), Ends(Show(2)), Goes(1))
	c = Main(Goes(1, Number(0, 0), Number(1, 1)), Behind(Branch(4, 2, 1, Mark(IsValue(0, 2, 1, 0)), Inst(api.Add, 3, 2, 1), Read(4)), Phi(2, 0, 3)), Ends(Show(3)))
	wantBlocks(t, "a block that leads to itself", c, 0,
		Goes(1, Number(0, 0), Number(1, 1)), Behind(Branch(4, 2, 3, Mark(IsValue(0, 2, 1, 0)), Inst(api.Add, 3, 2, 1), Read(4)), Phi(2, 0, 3)), Ends(Show(3)), Goes(1))
	c = Main(
		Branch(0, 1, 5, Read(0), Number(1, 1)),
		Behind(Branch(3, 2, 1, Read(3), Show(2)), Phi(2, 1, 2, 5, 6)),
		Branch(3, 1, 3, Inst(api.Add, 5, 2, 1)),
		Goes(4, Read(6)), Goes(1), Ends(Show(0)))
	wantBlocks(t, "three ways in by branches", c, 0,
		Branch(0, 6, 5, Read(0), Number(1, 1)),
		Behind(Branch(3, 2, 7, Read(3), Show(2)), Phi(2, 6, 1, 2, 5)),
		Branch(3, 8, 3, Inst(api.Add, 5, 2, 1)),
		Goes(4, Read(6)), Goes(1), Ends(Show(0)), Goes(1), Goes(1), Goes(1))
}

// TestSwapsInALoop: phis that take each other, all at once, on ways that are parted.
func TestSwapsInALoop(t *testing.T) {
	c := Main(Branch(2, 1, 2, Number(0, 3), Number(1, 4), Read(2)), Behind(Branch(5, 1, 2, Show(3), Show(4), Read(5)), Phi(3, 0, 4), Phi(4, 1, 3)), Behind(Ends(Show(6), Mark(IsValue(0, 7, 1, 0))), Phi(6, 0, 3), Phi(7, 1, 4)))
	wantBlocks(t, "swaps", c, 0,
		Branch(2, 3, 5, Number(0, 3), Number(1, 4), Read(2)), Behind(Branch(5, 4, 6, Show(3), Show(4), Read(5)), Phi(3, 0, 4), Phi(4, 1, 3)), Behind(Ends(Show(6), Mark(IsValue(0, 7, 1, 0))), Phi(6, 0, 3), Phi(7, 1, 4)), Goes(1), Goes(1), Goes(2), Goes(2))
}

// TestNothingToBeParted: phis to which one goes on alone, branches to where ways meet without phis, and code without branches.
func TestNothingToBeParted(t *testing.T) {
	wantSame(t, "one way in", Main(Branch(0, 1, 2, Read(0)), Behind(Ends(Show(1)), Phi(1, 0)), Behind(Ends(Show(2), Show(3)), Phi(2, 0), Phi(3, 0))))
	wantSame(t, "no phis", Main(Branch(0, 1, 2, Read(0)), Branch(0, 2, 3), Branch(0, 1, 3), Ends(Show(0))))
	wantSame(t, "a loop without phis", Main(Goes(1, Number(1, 1)), Branch(0, 1, 2, Read(0)), Answers(1)))
	wantSame(t, "no branches", Main(Goes(1, Number(0, 7)), Behind(Goes(2), Phi(1, 0)), Answers(1, Show(1))))
	wantSame(t, "one block", Main(Answers(0, Number(0, 7))))
	wantSame(t, "nothing", api.Code{Funs: []api.Fun{{Blocks: []api.Block{Ends()}}}})
}

// TestSeveralFunctions: each is parted for itself; those that needn't be stay as they are.
func TestSeveralFunctions(t *testing.T) {
	fork := func(params int, first api.Inst) api.Fun {
		return Fun(params, Branch(0, 2, 1, first, Number(1, 5)), Goes(2), Behind(Answers(2, At(1, Mark(IsValue(0, 2, 1, 0)), Deeper(1, IsValue(0, 0, 2, 1)))), Phi(2, 0, 1)))
	}
	c := Program(Fun(1, Answers(0, Param(0, 0))), fork(1, Param(0, 0)), Fun(0, Ends(Read(0), Call(1, 1, 0), At(0, Call(2, 3), IsValue(0, 1, 1, 0)), Call(3, 0, 2), Show(3))), fork(0, Read(0)))
	c.Main = 2
	wantBlocks(t, "the first", c, 0, c.Funs[0].Blocks...)
	wantBlocks(t, "the third", c, 2, c.Funs[2].Blocks...)
	for fn, first := range map[int]api.Inst{1: Param(0, 0), 3: Read(0)} {
		want := fork(0, first).Blocks
		want[0].To = 3
		want[2].Phis[0] = Phi(2, 1, 0)
		wantBlocks(t, "one with a fork", c, fn, append(want, Goes(2))...)
	}
}

// TestWhatNobodyLooksAt: of instructions it stays, elsewhere it is zero.
func TestWhatNobodyLooksAt(t *testing.T) {
	odd := Inst(api.Neg, 1, 0)
	odd.Imm, odd.Site, odd.Dbg = 5, -7, []api.Dbg{{Kind: 99, Arg: 1000}}
	known := api.Dbg{Kind: api.DNum, Arg: 77, A: 5, B: 1}
	c := Main(Branch(0, 1, 2, Read(0), odd, Mark(known)), api.Block{End: api.GoTo, To: 2, Arg: 1000, Else: -5}, Behind(api.Block{End: api.RetNone, Arg: 6, To: 1, Else: 1}, Phi(2, 0, 1)))
	c.Funs[0].Vars = 9
	wantBlocks(t, "a way in and out", c, 0, Branch(0, 1, 3, Read(0), odd, Mark(known)), Goes(2), Behind(Ends(), Phi(2, 1, 0)), Goes(2))
	c = Main(api.Block{Insts: []api.Inst{Read(0)}, End: api.RetVal, To: 7, Else: -1})
	wantBlocks(t, "an answer", c, 0, Answers(0, Read(0)))
}
