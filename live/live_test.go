package live_test

import (
	"reflect"
	"slices"
	"testing"

	"teasel/api"
	"teasel/code"
	"teasel/live"
	. "teasel/parts"
)

// of is a list of values, at a block's beginning, at its end, or ahead of an instruction.
func of(values ...int) []int {
	return values
}

// wantEnds holds what is live in the first function: of each block at its beginning, and at its end.
func wantEnds(t *testing.T, name string, c api.Code, all bool, want ...[2][]int) {
	t.Helper()
	wantOracle(t, c)
	begins, ends, e := live.Ends(c, 0, all)
	if e != api.OK || len(begins) != len(want) || len(ends) != len(want) {
		t.Fatalf("%s: %d, %v, %v", name, e, begins, ends)
	}
	for i, l := range want {
		if !slices.Equal(begins[i], l[0]) || !slices.Equal(ends[i], l[1]) {
			t.Errorf("%s: in the block %d are live %v, at its end %v, want %v", name, i, begins[i], ends[i], l)
		}
	}
}

// wantAhead holds what is live ahead of each instruction of a block of the first function.
func wantAhead(t *testing.T, name string, c api.Code, all bool, block int, want ...[]int) {
	t.Helper()
	wantOracle(t, c)
	for at := range max(len(want), len(c.Funs[0].Blocks[block].Insts)) {
		if l, e := live.Ahead(c, 0, all, block, at); e != api.OK || !slices.Equal(l, want[at]) {
			t.Errorf("%s: ahead of %d of the block %d are live %v, %d, want %v", name, at, block, l, e, want[at])
		}
	}
}

// wantClashes holds which values of the first function clash.
func wantClashes(t *testing.T, name string, c api.Code, all bool, want ...[2]int) {
	t.Helper()
	wantOracle(t, c)
	if l, e := live.Clashes(c, 0, all); e != api.OK || len(l)+len(want) > 0 && !reflect.DeepEqual(l, want) {
		t.Errorf("%s: %v clash, %d, want %v", name, l, e, want)
	}
}

// TestTheChaptersExample: x = read, y = read, print x + y.
func TestTheChaptersExample(t *testing.T) {
	c := Main(Ends(Read(0), Read(1), Inst(api.Add, 2, 0, 1), Show(2)))
	wantAhead(t, "example", c, false, 0, of(), of(0), of(0, 1), of(2))
	wantClashes(t, "example", c, false, [2]int{0, 1})
	wantEnds(t, "example", c, false, [2][]int{})
}

// TestUsesByInstructions: of each kind, with one Arg and with several, one of them twice.
func TestUsesByInstructions(t *testing.T) {
	for _, x := range []api.Inst{
		Inst(api.Neg, 9, 4), Inst(api.ICopy, 9, 4), Inst(api.ILen, 9, 4), Inst(api.Sub, 9, 4, 2), Inst(api.Div, 9, 2, 4), Inst(api.Mul, 9, 4, 4),
		Inst(api.ILoad, 9, 4, 2), Inst(api.ILoad, 9, 2, 4), Inst(api.IStore, -1, 4, 2, 3), Inst(api.IStore, -1, 2, 4, 3), Inst(api.IStore, -1, 3, 2, 4),
		Show(4), Inst(api.IFree, -1, 4), Call(9, 1, 4, 4, 2), Call(-1, 1, 2, 3, 4),
	} {
		c := Program(Fun(0, Goes(1, Number(4, 1), Number(2, 2), Number(3, 3)), Ends(x, Show(2), Show(3))), Fun(3, Ends()))
		wantAhead(t, "a use", c, false, 1, of(2, 3, 4), of(2, 3), of(3))
		wantEnds(t, "a use", c, false, [2][]int{{}, {2, 3, 4}}, [2][]int{{2, 3, 4}, {}})
	}
	for _, x := range []api.Inst{Mark(), Read(9), Number(9, 4), Inst(api.ITop, 9), Inst(api.IAlloc, 9), Call(9, 1), Call(-1, 1)} {
		if x.Op == api.IAlloc {
			x.Imm = 4
		}
		c := Program(Fun(0, Ends(Number(4, 1), x, Show(4))), Fun(0, Ends()))
		wantAhead(t, "no use", c, true, 0, of(), of(4), of(4))
	}
}

// TestUsesByABlocksEnd: its Arg is live ahead of the end, and not behind it, unless something else needs it.
func TestUsesByABlocksEnd(t *testing.T) {
	c := Main(Answers(0, Read(0), Mark()))
	wantEnds(t, "an answer", c, false, [2][]int{})
	wantAhead(t, "an answer", c, false, 0, of(), of(0))
	c = Main(Goes(1, Read(0)), Answers(0))
	wantEnds(t, "an answer of another block", c, false, [2][]int{{}, {0}}, [2][]int{{0}, {}})
	c = Main(Goes(1, Read(0), Read(1)), Branch(0, 2, 3), Ends(), Ends(Show(1)))
	wantEnds(t, "a branch", c, false, [2][]int{{}, {0, 1}}, [2][]int{{0, 1}, {1}}, [2][]int{}, [2][]int{{1}, {}})
	c = Main(Branch(0, 1, 2, Read(0)), Ends(), Ends(Show(0)))
	wantEnds(t, "a branch whose Arg is needed behind it", c, false, [2][]int{{}, {0}}, [2][]int{}, [2][]int{{0}, {}})
	c = Main(Branch(0, 1, 2, Read(0)), Goes(3), Goes(3), Behind(Answers(4), Phi(4, 0, 0)))
	wantEnds(t, "a branch whose Arg phis need", c, false, [2][]int{{}, {0}}, [2][]int{{0}, {0}}, [2][]int{{0}, {0}}, [2][]int{{4}, {}})
	c = Main(Branch(0, 1, 2, Read(0)), Ends(), Behind(Answers(4), Phi(4, 0)))
	wantEnds(t, "a branch to a phi", c, false, [2][]int{{}, {0}}, [2][]int{}, [2][]int{{4}, {}})
	wantClashes(t, "a branch to a phi", c, false)
}

// TestWhatIsNotLookedAt: what an end has no use for, what other instructions know, and places of values that are numbers.
func TestWhatIsNotLookedAt(t *testing.T) {
	goes, ends := Goes(1, Read(0), Read(1)), Ends(Show(1))
	goes.Arg, ends.Arg, ends.To, ends.Else = 0, 1, 1, 1
	x := At(0, Number(5, 3), IsValue(0, 0, 1, 0))
	goes.Insts = append(goes.Insts, x, Mark(api.Dbg{Kind: api.DNum, Arg: 0, A: 1}))
	c := Main(goes, ends)
	wantEnds(t, "unlooked", c, true, [2][]int{{}, {1}}, [2][]int{{1}, {}})
	wantAhead(t, "unlooked", c, true, 0, of(), of(), of(1), of(1))
}

// TestUsesByPhis: at the end of the block from which the Arg comes, and not at the phi's own block's beginning.
func TestUsesByPhis(t *testing.T) {
	c := Main(Branch(0, 1, 2, Read(0), Read(1), Read(2)), Goes(3, Mark()), Goes(3), Behind(Ends(Show(7)), Phi(7, 1, 2)))
	wantEnds(t, "a phi", c, false, [2][]int{{}, {1, 2}}, [2][]int{{1}, {1}}, [2][]int{{2}, {2}}, [2][]int{{7}, {}})
	wantAhead(t, "a phi", c, false, 1, of(1))
	wantClashes(t, "a phi", c, false, [2]int{0, 1}, [2]int{0, 2}, [2]int{1, 2})
	c = Main(Branch(0, 1, 2, Read(0), Read(1), Read(2)), Goes(3), Goes(3), Behind(Ends(Show(7), Show(1)), Phi(7, 1, 2)))
	wantEnds(t, "an Arg that is needed behind it, too", c, false, [2][]int{{}, {1, 2}}, [2][]int{{1}, {1}}, [2][]int{{1, 2}, {1, 2}}, [2][]int{{1, 7}, {}})
	wantClashes(t, "an Arg that is needed behind it, too", c, false, [2]int{0, 1}, [2]int{0, 2}, [2]int{1, 2}, [2]int{1, 7})
	c = Main(Branch(0, 1, 2, Read(0), Read(1)), Goes(3), Goes(3), Behind(Ends(), Phi(7, 1, 0)))
	wantEnds(t, "a phi that nobody uses", c, false, [2][]int{{}, {0, 1}}, [2][]int{{1}, {1}}, [2][]int{{0}, {0}}, [2][]int{})
}

// TestPhisOfOneBlockClash: whether they are used or not; those of others don't by that.
func TestPhisOfOneBlockClash(t *testing.T) {
	ahead := []api.Block{Branch(0, 1, 2, Number(0, 1)), Goes(3), Goes(3)}
	c := Main(append(ahead, Behind(Ends(), Phi(9, 0, 0), Phi(5, 0, 0), Phi(7, 0, 0)))...)
	wantClashes(t, "unused phis", c, false, [2]int{5, 7}, [2]int{5, 9}, [2]int{7, 9})
	c = Main(append(ahead, Behind(Ends(Show(5), Show(9)), Phi(9, 0, 0), Phi(5, 0, 0), Phi(7, 0, 0)))...)
	wantClashes(t, "used phis", c, false, [2]int{5, 7}, [2]int{5, 9}, [2]int{7, 9})
	c = Main(append(ahead, Behind(Goes(4), Phi(9, 0, 0)), Behind(Ends(), Phi(5, 9)))...)
	wantClashes(t, "phis of two blocks", c, false)
	c = Main(append(ahead, Behind(Goes(4), Phi(9, 0, 0), Phi(8, 0, 0)), Behind(Ends(Show(5), Show(8)), Phi(5, 9)))...)
	wantClashes(t, "phis of two blocks, one of which is needed in the other", c, false, [2]int{5, 8}, [2]int{8, 9})
}

// TestAPhiThatIsItsOwnArg: it is live all the way back.
func TestAPhiThatIsItsOwnArg(t *testing.T) {
	c := Main(Goes(1, Number(0, 1), Number(1, 2)), Behind(Branch(1, 2, 3), Phi(4, 0, 4)), Goes(1, Mark()), Ends())
	wantEnds(t, "its own Arg", c, false, [2][]int{{}, {0, 1}}, [2][]int{{1, 4}, {1, 4}}, [2][]int{{1, 4}, {1, 4}}, [2][]int{})
	wantAhead(t, "its own Arg", c, false, 2, of(1, 4))
	wantClashes(t, "its own Arg", c, false, [2]int{0, 1}, [2]int{1, 4})
	c = Main(Goes(1, Number(0, 1), Read(3)), Behind(Branch(3, 1, 2, Show(4)), Phi(4, 0, 4)), Ends())
	wantEnds(t, "its own Arg, from its own block", c, false, [2][]int{{}, {0, 3}}, [2][]int{{3, 4}, {3, 4}}, [2][]int{})
	wantClashes(t, "its own Arg, from its own block", c, false, [2]int{0, 3}, [2]int{3, 4})
	c = Main(Goes(1, Number(0, 1), Number(1, 2), Read(3)), Behind(Branch(3, 1, 2), Phi(4, 0, 5), Phi(5, 1, 4)), Ends())
	wantEnds(t, "each other's Args", c, false, [2][]int{{}, {0, 1, 3}}, [2][]int{{3, 4, 5}, {3, 4, 5}}, [2][]int{})
	wantClashes(t, "each other's Args", c, false, [2]int{0, 1}, [2]int{0, 3}, [2]int{1, 3}, [2]int{3, 4}, [2]int{3, 5}, [2]int{4, 5})
}

// TestLoops: a value that a loop uses is live all the way round, one that is made and used in it isn't.
func TestLoops(t *testing.T) {
	c := Main(
		Goes(1, Read(0), Read(1), Number(2, 0)),
		Behind(Branch(1, 2, 4, Inst(api.Lt, 6, 5, 1)), Phi(5, 2, 7)),
		Goes(3, Show(0), Inst(api.Add, 7, 5, 5), Inst(api.Neg, 8, 7), Show(8)),
		Goes(1, Mark()),
		Ends(Show(5)),
	)
	wantEnds(t, "a loop", c, false, [2][]int{{}, {0, 1, 2}}, [2][]int{{0, 1, 5}, {0, 1, 5}}, [2][]int{{0, 1, 5}, {0, 1, 7}}, [2][]int{{0, 1, 7}, {0, 1, 7}}, [2][]int{{5}, {}})
	wantAhead(t, "a loop", c, false, 2, of(0, 1, 5), of(0, 1, 5), of(0, 1, 7), of(0, 1, 7, 8))
	wantClashes(t, "a loop", c, false, [2]int{0, 1}, [2]int{0, 2}, [2]int{0, 5}, [2]int{0, 6}, [2]int{0, 7}, [2]int{0, 8}, [2]int{1, 2}, [2]int{1, 5}, [2]int{1, 6}, [2]int{1, 7}, [2]int{1, 8}, [2]int{5, 6}, [2]int{7, 8})
}

// TestLoopsInLoops: what the outer one uses is live all round the inner one.
func TestLoopsInLoops(t *testing.T) {
	c := Main(Goes(1, Read(0), Read(1)), Branch(0, 2, 5, Show(1)), Branch(0, 3, 4), Goes(2, Read(6), Show(6)), Goes(1), Ends())
	var both [2][]int
	both[0], both[1] = of(0, 1), of(0, 1)
	wantEnds(t, "loops", c, false, [2][]int{{}, {0, 1}}, both, both, both, both, [2][]int{})
	wantAhead(t, "loops", c, false, 3, of(0, 1), of(0, 1, 6))
}

// TestALoopThatIsEnteredInTwoPlaces: neither of its blocks dominates the other one.
func TestALoopThatIsEnteredInTwoPlaces(t *testing.T) {
	c := Main(Branch(0, 1, 2, Read(0), Read(1)), Goes(2), Branch(0, 1, 3), Ends(Show(1)))
	both := [2][]int{of(0, 1), of(0, 1)}
	wantEnds(t, "two places", c, false, [2][]int{{}, {0, 1}}, both, [2][]int{{0, 1}, {0, 1}}, [2][]int{{1}, {}})
}

// TestWhatIsKnown: at marks and calls it is used with all, and not without.
func TestWhatIsKnown(t *testing.T) {
	for _, x := range []api.Inst{Mark(IsValue(3, 0, 1, 0), IsNumber(2, 1)), Mark(IsNumber(2, 0), IsValue(3, 0, 0, 5)), At(1, Mark(), Deeper(1, IsValue(3, 0, -2, 1))), At(1, Call(-1, 0), IsValue(0, 0, 1, 0)), At(1, Call(7, 0), IsValue(0, 0, 4, 0))} {
		c := Main(Ends(Number(0, 1), Number(1, 2), x, Show(1)))
		wantAhead(t, "without all", c, false, 0, of(), of(), of(1), of(1))
		wantAhead(t, "with all", c, true, 0, of(), of(0), of(0, 1), of(1))
		if x.Dst == 7 {
			wantClashes(t, "without all", c, false, [2]int{1, 7})
			wantClashes(t, "with all", c, true, [2]int{0, 1}, [2]int{1, 7})
		} else {
			wantClashes(t, "without all", c, false)
			wantClashes(t, "with all", c, true, [2]int{0, 1})
		}
	}
	c := Main(Branch(0, 1, 2, Read(0), Read(1)), Ends(Mark(IsValue(0, 1, 1, 0))), Ends())
	wantEnds(t, "without all", c, false, [2][]int{}, [2][]int{}, [2][]int{})
	wantEnds(t, "with all", c, true, [2][]int{{}, {1}}, [2][]int{{1}, {}}, [2][]int{})
	c = Main(Goes(1, Number(0, 1)), Behind(Branch(0, 1, 2, Mark(IsValue(0, 5, 1, 0), IsValue(1, 0, 1, 0))), Phi(5, 0, 0)), Ends())
	wantEnds(t, "without all", c, false, [2][]int{{}, {0}}, [2][]int{{0}, {0}}, [2][]int{})
	wantClashes(t, "with all", c, true, [2]int{0, 5})
}

// TestValuesThatNobodyUses: they clash with what is live right behind where they are made, and are live nowhere.
func TestValuesThatNobodyUses(t *testing.T) {
	c := Main(Ends(Read(4), Read(3), Read(2), Number(1, 1), Show(4), Number(0, 1), Show(2), Number(5, 2)))
	wantAhead(t, "unused", c, true, 0, of(), of(4), of(4), of(2, 4), of(2, 4), of(2), of(2), of())
	wantClashes(t, "unused", c, true, [2]int{0, 2}, [2]int{1, 2}, [2]int{1, 4}, [2]int{2, 4}, [2]int{3, 4})
	c = Program(Fun(0, Answers(0, Number(0, 1), Call(1, 1), Call(-1, 1), Read(2))), Fun(0, Ends()))
	wantClashes(t, "calls", c, true, [2]int{0, 1}, [2]int{0, 2})
	c = Main(Answers(3, Number(3, 1), Number(8, 1)))
	wantClashes(t, "made last", c, true, [2]int{3, 8})
}

// TestParameters: they are live from where they are asked for.
func TestParameters(t *testing.T) {
	f := Fun(2, Goes(1, Param(5, 1), Mark(), Param(4, 0), Param(3, 1)), Answers(6, Inst(api.Add, 6, 4, 5)))
	c := Program(f, Fun(0, Ends()))
	c.Main = 1
	wantAhead(t, "parameters", c, false, 0, of(), of(5), of(5), of(4, 5))
	wantClashes(t, "parameters", c, false, [2]int{3, 4}, [2]int{3, 5}, [2]int{4, 5})
	wantEnds(t, "parameters", c, false, [2][]int{{}, {4, 5}}, [2][]int{{4, 5}, {}})
}

// TestFunctions: each has values of its own.
func TestFunctions(t *testing.T) {
	c := Program(Fun(0, Ends()), Fun(0, Ends(Read(0), Read(1), Show(0), Show(1))), Fun(0, Ends(Read(0), Show(0), Read(1), Show(1))))
	for fn, want := range [][][2]int{nil, {{0, 1}}, nil} {
		if l, e := live.Clashes(c, fn, false); e != api.OK || len(l) != len(want) || len(want) > 0 && l[0] != want[0] {
			t.Errorf("in the function %d clash %v, %d, want %v", fn, l, e, want)
		}
	}
	if l, e := live.Ahead(c, 2, false, 0, 2); e != api.OK || len(l) != 0 {
		t.Error(l, e)
	}
	if l, e := live.Ahead(c, 1, false, 0, 2); e != api.OK || !slices.Equal(l, of(0, 1)) {
		t.Error(l, e)
	}
}

// TestValuesByTheirNumbers: neighbours of 64 and its multiples, in any order.
func TestValuesByTheirNumbers(t *testing.T) {
	numbers := []int{127, 64, 191, 0, 63, 128, 200, 1, 192, 65}
	var l []api.Inst
	for _, v := range numbers {
		l = append(l, Read(v))
	}
	for _, v := range numbers {
		l = append(l, Show(v))
	}
	c := Main(Goes(1, l[:len(numbers)]...), Ends(l[len(numbers):]...))
	c.Funs[0].Vals = 201
	sorted := slices.Clone(numbers)
	slices.Sort(sorted)
	wantEnds(t, "numbers", c, false, [2][]int{{}, sorted}, [2][]int{sorted, {}})
	pairs, _ := live.Clashes(c, 0, false)
	if len(pairs) != 45 || !slices.IsSortedFunc(pairs, func(p, q [2]int) int { return slices.Compare(p[:], q[:]) }) {
		t.Error(pairs)
	}
	for _, vals := range []int{201, 202, 255, 256, 257, api.MaxVals} {
		c.Funs[0].Vals = vals
		wantAhead(t, "numbers", c, false, 1, sorted, of(0, 1, 63, 64, 65, 128, 191, 192, 200), of(0, 1, 63, 65, 128, 191, 192, 200), of(0, 1, 63, 65, 128, 192, 200), of(1, 63, 65, 128, 192, 200), of(1, 65, 128, 192, 200), of(1, 65, 192, 200), of(1, 65, 192), of(65, 192), of(65))
	}
}

// TestLeastCode: of no values.
func TestLeastCode(t *testing.T) {
	c := api.Code{Funs: []api.Fun{{Blocks: []api.Block{Ends()}}}}
	if !code.Plain(c) {
		t.Fatal("the code isn't plain")
	}
	wantEnds(t, "nothing", c, true, [2][]int{})
	wantClashes(t, "nothing", c, true)
}
