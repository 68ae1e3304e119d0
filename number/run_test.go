package number_test

import (
	"math"
	"slices"
	"testing"

	"teasel/api"
	"teasel/code"
	. "teasel/parts"
)

// wantCount holds how many with an Op stay of code.
func wantCount(t *testing.T, c api.Code, op byte, want int) {
	t.Helper()
	if d := mustRun(t, c); Count(d, op) != want {
		t.Errorf("of the Op %d there are %d, want %d, in %s", op, Count(d, op), want, told(d))
	}
}

// TestExamplesOfTheChapter: one sum and its square, one division.
func TestExamplesOfTheChapter(t *testing.T) {
	c := Main(Ends(Read(0), Read(1), Inst(api.Add, 2, 0, 1), Inst(api.Add, 3, 1, 0), Inst(api.Mul, 4, 2, 3), Show(4)))
	wantCount(t, c, api.Add, 1)
	if x := mustRun(t, c).Funs[0].Blocks[0].Insts[3]; x.Op != api.Mul || x.Args[0] != 2 || x.Args[1] != 2 {
		t.Errorf("%+v", x)
	}
	holdEnd(t, c, api.Halt, nums(3, 4), 49)
	c = Main(Ends(Read(0), Read(1), Inst(api.Div, 2, 0, 1), Inst(api.Div, 3, 0, 1), Show(2), Show(3)))
	wantCount(t, c, api.Div, 1)
	holdEnd(t, c, api.Halt, nums(9, 4), 2, 2)
}

// operations are those that are pure, but IConst, and Div and Rem; and those of two values that make the same of them turned round.
func operations() ([]byte, []byte) {
	l := []byte{api.Div, api.Rem}
	for op := range byte(50) {
		if code.Pure(op) && op != api.IConst {
			l = append(l, op)
		}
	}
	return l, []byte{api.Add, api.Mul, api.And, api.Or, api.Xor, api.Eq, api.Ne}
}

// TestTheSameTwiceInABlock: of each operation, with the same values, with others, and turned round.
func TestTheSameTwiceInABlock(t *testing.T) {
	all, turning := operations()
	if len(all) != 2+14+3+1 {
		t.Fatal(all)
	}
	for _, op := range all {
		n, _, _ := code.Shape(op)
		one := func(dst int, args ...int) api.Inst {
			return Inst(op, dst, args[:n]...)
		}
		for _, in := range [][]int64{{7, 2}, {2, 7}, {5, 5}, {-9, 3}, {math.MinInt64, -1}, {0, 4}, {4, 0}} {
			same := Main(Ends(Read(0), Read(1), one(2, 0, 1), Show(2), one(3, 0, 1), Show(3), one(4, 0, 1), Show(4)))
			hold(t, same, in, 99)
			other := Main(Ends(Read(0), Read(1), one(2, 0, 1), Show(2), one(3, 1, 0), Show(3)))
			hold(t, other, in, 99)
			if op == api.ICopy {
				wantCount(t, same, op, 0)
				wantCount(t, other, op, 0)
				continue
			}
			wantCount(t, same, op, 1)
			want := 2
			if slices.Contains(turning, op) {
				want = 1
			}
			wantCount(t, other, op, want)
		}
	}
}

// TestNumbersTwice: of one Imm one stands, of others each.
func TestNumbersTwice(t *testing.T) {
	c := Main(Goes(1, Number(0, 5), Number(1, 6), Number(2, 5), Show(2), Number(3, -5)), Ends(Number(4, 5), Number(5, 6), Show(4), Show(5), Number(6, 1<<32+5), Show(6), Show(3)))
	wantCount(t, c, api.IConst, 4)
	holdEnd(t, c, api.Halt, nil, 5, 5, 6, 1<<32+5, -5)
}

// TestOtherOperations: with the same values they are something else.
func TestOtherOperations(t *testing.T) {
	var l []api.Inst
	for op := byte(api.Add); op <= api.Ne; op++ {
		l = append(l, Inst(op, 10+int(op), 0, 1), Show(10+int(op)))
	}
	for _, op := range []byte{api.Neg, api.Not, api.Bang} {
		l = append(l, Inst(op, 10+int(op), 0), Show(10+int(op)))
	}
	c := Main(Ends(append([]api.Inst{Read(0), Read(1)}, l...)...))
	if d := mustRun(t, c); code.Size(d) != code.Size(c) {
		t.Errorf("%+v", d)
	}
	hold(t, c, nums(9, 4), 99)
}

// TestBlocksThatDominate: what was reckoned in one stands for what is below it, however deep, not for what is beside it.
func TestBlocksThatDominate(t *testing.T) {
	c := Main(
		Branch(0, 1, 2, Read(0), Read(1), Inst(api.Add, 2, 0, 1)),
		Goes(3, Inst(api.Add, 3, 1, 0), Show(3), Inst(api.Sub, 4, 0, 1), Show(4), Inst(api.Rem, 12, 0, 1)),
		Branch(1, 3, 4, Inst(api.Sub, 5, 0, 1), Show(5), Inst(api.Rem, 13, 0, 1)),
		Goes(5, Inst(api.Sub, 6, 0, 1), Show(6), Inst(api.Add, 7, 0, 1), Show(7), Inst(api.Rem, 14, 0, 1)),
		Goes(5, Inst(api.Sub, 8, 0, 1), Show(8)),
		Ends(Inst(api.Sub, 9, 0, 1), Show(9), Inst(api.Add, 10, 1, 0), Show(10)))
	wantCount(t, c, api.Add, 1)
	wantCount(t, c, api.Sub, 4)
	wantCount(t, c, api.Rem, 3)
	holdEnd(t, c, api.Halt, nums(7, 5), 12, 2, 2, 12, 2, 12)
	holdEnd(t, c, api.Halt, nums(0, 5), -5, -5, 5, -5, 5)
	holdEnd(t, c, api.TrapZero, nums(0, 0), 0)
}

// TestWhatIsFoundLater: only when a loop was gone through is it known that a reckoning ahead of others is the same as they, which are beside each other.
func TestWhatIsFoundLater(t *testing.T) {
	c := Main(
		Goes(1, Read(0), Read(1)),
		Behind(Branch(2, 2, 3, Read(2), Inst(api.Mul, 4, 3, 1), Show(4)), Phi(3, 0, 9)),
		Branch(2, 4, 5, Inst(api.Mul, 5, 0, 1), Show(5), Inst(api.ICopy, 9, 3)),
		Ends(Inst(api.Mul, 6, 1, 0), Show(6), Show(3)),
		Goes(6, Inst(api.Mul, 7, 9, 1), Show(7)),
		Goes(6, Inst(api.Mul, 8, 1, 9), Show(8)),
		Goes(1))
	wantCount(t, c, api.Mul, 1)
	wantCount(t, c, api.IPhi, 0)
	holdEnd(t, c, api.Halt, nums(3, 5, 1, 0), 15, 15, 15, 15, 15, 3)
}

// TestOneTakesThePlaceOfSeveral: that stand beside each other below it, and were found to be the same only behind it.
func TestOneTakesThePlaceOfSeveral(t *testing.T) {
	c := Main(
		Goes(1, Read(0), Read(1)),
		Behind(Branch(1, 2, 3, Inst(api.Neg, 4, 3), Show(4)), Phi(3, 0, 3, 8)),
		Branch(0, 1, 4, Inst(api.Neg, 5, 0), Show(5)),
		Ends(Inst(api.Neg, 6, 0), Show(6)),
		Goes(1, Inst(api.Neg, 7, 0), Show(7), Inst(api.ICopy, 8, 3)))
	wantCount(t, c, api.Neg, 1)
	holdEnd(t, c, api.Halt, nums(4, 0), -4, -4)
	if end := hold(t, c, nums(4, 1), 50); end != api.StopFuel {
		t.Error(end)
	}
}

// TestCopies: of copies, of what is known, of phis, of what is given to functions and ends.
func TestCopies(t *testing.T) {
	c := Program(
		Fun(0,
			Branch(3, 1, 2, Read(0), Inst(api.ICopy, 1, 0), Inst(api.ICopy, 2, 1), Inst(api.ICopy, 3, 2), Mark(IsValue(1, 3, 2, 1))),
			Goes(2, Inst(api.ICopy, 4, 3), Number(5, 1), Inst(api.ICopy, 6, 5)),
			Behind(Answers(9, Inst(api.ICopy, 8, 7), Show(8), Call(10, 1, 8, 3), Inst(api.ICopy, 9, 10)), Phi(7, 2, 6))),
		Fun(2, Answers(3, Param(0, 0), Param(1, 1), Inst(api.ICopy, 2, 1), Inst(api.Sub, 3, 0, 2))))
	wantCount(t, c, api.ICopy, 0)
	wantCount(t, c, api.IPhi, 1)
	holdEnd(t, c, api.Halt, nums(7), 1)
	holdEnd(t, c, api.Halt, nums(0), 0)
}

// TestPhisWithOneValue: from each way, in loops, by way of copies and of other phis.
func TestPhisWithOneValue(t *testing.T) {
	c := Main(Branch(0, 1, 2, Read(0), Read(1)), Goes(3, Inst(api.ICopy, 2, 1)), Goes(3), Behind(Ends(Show(3), Show(4)), Phi(3, 1, 1), Phi(4, 2, 1)))
	wantCount(t, c, api.IPhi, 0)
	holdEnd(t, c, api.Halt, nums(1, 8), 8, 8)
	loop := Main(
		Goes(1, Read(0), Read(1)),
		Behind(Branch(9, 2, 3, Show(3), Read(9)), Phi(3, 0, 5, 3), Phi(4, 1, 0, 4)),
		Behind(Branch(9, 1, 4, Inst(api.ICopy, 5, 6)), Phi(6, 3)),
		Ends(Show(3), Show(4)),
		Goes(1))
	wantCount(t, loop, api.IPhi, 1)
	holdEnd(t, loop, api.Halt, nums(6, 7, 0), 6, 6, 7)
	holdEnd(t, loop, api.Halt, nums(6, 7, 1, 0), 6, 6, 6, 6)
}

// TestPhisOfEachOther: each of which has no other value but the other's.
func TestPhisOfEachOther(t *testing.T) {
	c := Main(
		Goes(1, Read(0)),
		Behind(Branch(1, 2, 4, Read(1), Show(2)), Phi(2, 0, 5)),
		Behind(Goes(3), Phi(3, 2, 4)),
		Behind(Branch(1, 2, 1, Inst(api.ICopy, 5, 4)), Phi(4, 3)),
		Ends(Show(2)))
	wantCount(t, c, api.IPhi, 0)
	holdEnd(t, c, api.Halt, nums(6, 0), 6, 6)
}

// TestPhisOfOneBlock: with the same Args one stands; in another order, or in another block, they are others.
func TestPhisOfOneBlock(t *testing.T) {
	c := Main(
		Branch(0, 1, 2, Read(0), Read(1), Read(2)),
		Goes(3), Goes(3),
		Behind(Branch(0, 4, 5, Inst(api.Sub, 6, 3, 4), Show(6), Inst(api.Add, 7, 3, 1), Inst(api.Add, 8, 1, 5), Show(7), Show(8)), Phi(3, 1, 2), Phi(4, 2, 1), Phi(5, 1, 2)),
		Goes(6), Goes(6),
		Behind(Ends(Show(9), Show(10)), Phi(9, 1, 2), Phi(10, 1, 2)))
	wantCount(t, c, api.IPhi, 3)
	wantCount(t, c, api.Add, 1)
	holdEnd(t, c, api.Halt, nums(1, 8, 3), 5, 16, 16, 8, 8)
	holdEnd(t, c, api.Halt, nums(0, 8, 3), -5, 11, 11, 3, 3)
}

// TestPhisThatBecomeTheSame: as what they take does, ahead of them, or in the loop behind them.
func TestPhisThatBecomeTheSame(t *testing.T) {
	c := Main(
		Branch(0, 1, 2, Read(0), Read(1), Inst(api.Add, 2, 0, 1), Inst(api.Add, 3, 1, 0)),
		Goes(3, Inst(api.ICopy, 4, 1)), Goes(3),
		Behind(Ends(Inst(api.Mul, 7, 5, 6), Show(7)), Phi(5, 4, 2), Phi(6, 1, 3)))
	wantCount(t, c, api.IPhi, 1)
	holdEnd(t, c, api.Halt, nums(1, 8), 64)
	loop := Main(
		Goes(1, Read(0), Read(1), Number(2, 1), Number(3, 1)),
		Behind(Branch(8, 1, 2, Inst(api.Sub, 6, 4, 2), Inst(api.ICopy, 7, 6), Show(5), Inst(api.Gt, 8, 6, 3)), Phi(4, 0, 6), Phi(5, 0, 7)),
		Ends(Show(4), Show(5)))
	wantCount(t, loop, api.IPhi, 1)
	wantCount(t, loop, api.Sub, 1)
	holdEnd(t, loop, api.Halt, nums(3, 0), 3, 2, 2, 2)
}

// TestSameOnlyAsOthersAre: a row of reckonings, each of which is the same as another one only because those are from which they are made.
func TestSameOnlyAsOthersAre(t *testing.T) {
	c := Main(
		Goes(1, Read(0), Read(1), Inst(api.Xor, 2, 0, 1), Inst(api.Mul, 3, 2, 2), Inst(api.Not, 4, 3), Inst(api.Div, 5, 4, 2)),
		Ends(Inst(api.Xor, 12, 1, 0), Inst(api.Mul, 13, 12, 2), Inst(api.Not, 14, 13), Inst(api.Div, 15, 14, 12), Inst(api.Sub, 16, 15, 5), Show(16), Inst(api.Sub, 17, 5, 15), Show(17)))
	for op, n := range map[byte]int{api.Xor: 1, api.Mul: 1, api.Not: 1, api.Div: 1, api.Sub: 1} {
		wantCount(t, c, op, n)
	}
	holdEnd(t, c, api.Halt, nums(9, 4), 0, 0)
	holdEnd(t, c, api.TrapZero, nums(4, 4))
}

// TestDivisionsThatTrap: the first one does, as it did; what is behind the second one was never done.
func TestDivisionsThatTrap(t *testing.T) {
	for _, op := range []byte{api.Div, api.Rem} {
		c := Main(
			Branch(0, 1, 2, Read(0), Read(1), Show(1)),
			Goes(2, At(3, Inst(op, 2, 0, 1)), At(4, Mark()), At(5, Inst(op, 3, 0, 1)), Show(3)),
			Ends(At(6, Inst(op, 4, 0, 1)), Show(4)))
		wantCount(t, c, op, 2)
		for _, in := range [][]int64{{1, 0}, {0, 0}, {0, 3}, {7, 2}} {
			hold(t, c, in, 99)
		}
	}
}

// TestWhatIsDoneAgain: what isn't an operation of numbers may do something else each time.
func TestWhatIsDoneAgain(t *testing.T) {
	c := Program(
		Fun(0, Answers(14, Read(0), Read(1), Inst(api.ITop, 2), api.Inst{Op: api.IAlloc, Dst: 3, Imm: 2}, api.Inst{Op: api.IAlloc, Dst: 4, Imm: 2}, Inst(api.ITop, 5), Number(6, 0),
			Inst(api.ILoad, 7, 3, 6), Inst(api.IStore, -1, 3, 6, 0), Inst(api.ILoad, 8, 3, 6), Call(9, 1, 0), Call(10, 1, 0), Inst(api.ILen, 11, 3), Inst(api.ILen, 12, 3),
			Show(7), Show(8), Show(9), Show(10), Inst(api.Sub, 13, 5, 2), Show(13), Show(0), Show(1), Inst(api.Eq, 14, 3, 4))),
		Fun(1, Answers(1, Param(0, 0), Param(3, 0), Read(1), Inst(api.Add, 2, 0, 3))))
	if d := mustRun(t, c); code.Size(d) != code.Size(c) {
		t.Errorf("%+v", d)
	}
	holdEnd(t, c, api.Halt, nums(5, 6, 7, 8), 0, 5, 7, 8, 6, 5, 6)
}
