package dead_test

import (
	"reflect"
	"testing"

	"teasel/api"
	"teasel/code"
	. "teasel/parts"
)

// TestExampleOfTheChapter: t = i * 4, known at a mark, used nowhere.
func TestExampleOfTheChapter(t *testing.T) {
	c := Main(Answers(0, Read(0), Number(1, 4), Inst(api.Mul, 2, 0, 1), Mark(IsValue(0, 0, 1, 0), IsValue(1, 2, 1, 0))))
	wantStays(t, c, 0)
	want := []api.Dbg{IsValue(0, 0, 1, 0), IsValue(1, 0, 4, 0)}
	if x := mustRun(t, c).Funs[0].Blocks[0].Insts[1]; x.Op != api.IMark || !reflect.DeepEqual(x.Dbg, want) {
		t.Errorf("%+v, want %+v", x.Dbg, want)
	}
	wantShown(t, c, nums(7), 1, map[int]int64{0: 7, 1: 28})
}

// spare are an instruction of each kind that stays only where it is needed; the values 0 and 1 are there, and the value 2 is made.
func spare() []api.Inst {
	l := []api.Inst{Number(2, 9), Param(2, 0), Inst(api.ITop, 2)}
	for op := range byte(60) {
		if n, _, _ := code.Shape(op); code.Pure(op) && op != api.IConst {
			l = append(l, Inst(op, 2, []int{0, 1}[:n]...))
		}
	}
	return l
}

// TestWhatNobodyNeeds: of each kind one.
func TestWhatNobodyNeeds(t *testing.T) {
	if n := len(spare()); n != 3+14+3+1 {
		t.Fatal(n)
	}
	for _, x := range spare() {
		c := Program(Fun(0, Ends(Read(0), Call(1, 1, 0), Call(2, 1, 1))), Fun(1, Answers(0, Read(0), Read(1), x, Show(1))))
		hold(t, c, nums(4, 5, 6, 7), 99)
		if l := mustRun(t, c).Funs[1].Blocks[0].Insts; len(l) != 3 {
			t.Errorf("%+v stays: %+v", x, l)
		}
	}
}

// TestNeededByWhatMustBeDone: by each kind of instruction that is not such itself, and by each end.
func TestNeededByWhatMustBeDone(t *testing.T) {
	array := api.Inst{Op: api.IAlloc, Dst: 0, Imm: 3}
	for _, y := range []api.Inst{
		Inst(api.Div, 3, 2, 1), Inst(api.Div, 3, 1, 2), Inst(api.Rem, 3, 2, 1), Inst(api.Rem, 3, 1, 2),
		Inst(api.ILoad, 3, 2, 1), Inst(api.ILoad, 3, 0, 2), Inst(api.IStore, -1, 2, 1, 1), Inst(api.IStore, -1, 0, 2, 1), Inst(api.IStore, -1, 0, 1, 2),
		Inst(api.ILen, 3, 2), Inst(api.IFree, -1, 2), Inst(api.IPrint, -1, 2), Call(3, 1, 2, 1), Call(-1, 1, 1, 2),
	} {
		for _, x := range spare() {
			if x.Op == api.IParam {
				continue
			}
			c := Program(Fun(0, Ends(array, Number(1, 1), x, y)), Fun(2, Ends()))
			hold(t, c, nil, 99)
			l := mustRun(t, c).Funs[0].Blocks[0].Insts
			if n := len(l); n < 2 || !reflect.DeepEqual(l[n-2:], []api.Inst{x, y}) {
				t.Errorf("%+v, needed by %+v, became %+v", x, y, l)
			}
		}
	}
	wantStays(t, Main(Answers(2, Number(0, 3), Number(1, 4), Inst(api.Add, 2, 0, 1), Number(3, 5))), 0, 1, 2)
	wantStays(t, Main(Branch(2, 1, 2, Number(0, 3), Number(1, 4), Inst(api.Lt, 2, 0, 1), Number(3, 5)), Ends(), Ends()), 0, 1, 2)
}

// TestWhatIsNotLookedAtNeedsNothing: an end's Arg, where it has none.
func TestWhatIsNotLookedAtNeedsNothing(t *testing.T) {
	first, last := Goes(1, Number(0, 3), Number(1, 4)), Ends(Number(2, 5))
	first.Arg, first.Else, last.Arg, last.To, last.Else = 1, 77, 2, -4, 1
	c := Main(first, last)
	wantStays(t, c)
	d := mustRun(t, c)
	if b := d.Funs[0].Blocks; b[0].End != api.GoTo || b[0].To != 1 || b[1].End != api.RetNone {
		t.Errorf("%+v", b)
	}
	c.Funs[0].Vars = 9
	if d := mustRun(t, c); d.Funs[0].Vars != 0 {
		t.Error(d.Funs[0].Vars)
	}
}

// TestNeededByWayOfOthers: in rows, from block to block, through phis; what is beside them is gone, rows of it, too.
func TestNeededByWayOfOthers(t *testing.T) {
	c := Program(
		Fun(2,
			Branch(4, 1, 2, Param(0, 0), Param(1, 1), Inst(api.ITop, 2), Number(3, 7), Inst(api.Sub, 4, 0, 3), Inst(api.Mul, 5, 1, 3), Inst(api.Not, 6, 5)),
			Goes(3, Inst(api.Xor, 7, 2, 2), Inst(api.Neg, 8, 6)),
			Goes(3, Inst(api.ICopy, 9, 3)),
			Behind(Answers(12, Inst(api.ICopy, 12, 10)), Phi(10, 7, 9), Phi(11, 8, 6))),
		Fun(0, Ends(Number(0, 2), Number(1, 3), Call(2, 0, 0, 1), Show(2), Call(3, 0, 1, 0), Show(3), Number(4, 7), Call(5, 0, 4, 4), Show(5))))
	c.Main = 1
	wantStays(t, c, 0, 2, 3, 4, 7, 9, 10, 12)
	holdEnd(t, c, api.Halt, nil, 0, 0, 7)
}

// TestPhisInLoops: that need nobody but one another are gone, with what they need alone; those of which one is asked for stay, all of them.
func TestPhisInLoops(t *testing.T) {
	loop := func(behind ...api.Inst) api.Code {
		return Main(
			Goes(1, Read(0), Number(1, 1), Number(2, 5)),
			Behind(Branch(7, 1, 2, Inst(api.Sub, 7, 3, 1), Inst(api.Add, 8, 4, 5), Inst(api.Mul, 9, 6, 2)), Phi(3, 0, 7), Phi(4, 1, 5), Phi(5, 2, 8), Phi(6, 2, 9)),
			Ends(behind...))
	}
	wantStays(t, loop(), 0, 1, 3, 7)
	holdEnd(t, loop(), api.Halt, nums(3))
	wantStays(t, loop(Show(4)), 0, 1, 2, 3, 4, 5, 7, 8)
	holdEnd(t, loop(Show(4)), api.Halt, nums(3), 6)
	wantStays(t, loop(Show(6)), 0, 1, 2, 3, 6, 7, 9)
	holdEnd(t, loop(Show(6)), api.Halt, nums(3), 125)
	alone := Main(Goes(1, Number(0, 4)), Behind(Goes(1), Phi(1, 0, 1), Phi(2, 0, 3), Phi(3, 0, 2)))
	wantStays(t, alone)
	if end := hold(t, alone, nil, 50); end != api.StopFuel {
		t.Error(end)
	}
}

// TestTrapsStay: what nobody needs may trap, and does.
func TestTrapsStay(t *testing.T) {
	for _, op := range []byte{api.Div, api.Rem} {
		c := Main(Ends(Read(0), Read(1), At(2, Inst(op, 2, 0, 1)), Show(1)))
		wantStays(t, c, 0, 1, 2)
		holdEnd(t, c, api.TrapZero, nums(3, 0))
		holdEnd(t, c, api.Halt, nums(3, 2), 2)
	}
	c := Main(Ends(api.Inst{Op: api.IAlloc, Dst: 0, Imm: 2}, Number(1, 2), At(3, Inst(api.ILoad, 2, 0, 1))))
	wantStays(t, c, 0, 1, 2)
	holdEnd(t, c, api.TrapCell, nil)
	wantStays(t, Main(Ends(Read(0))), 0)
	holdEnd(t, Main(Ends(Read(0), Show(0), Read(1))), api.TrapIn, nums(3), 3)
}

// TestWhatElseIsDone: arrays, their lengths, calls and reads stay, though nobody asks for what they make.
func TestWhatElseIsDone(t *testing.T) {
	c := Program(
		Fun(0, Ends(Inst(api.ITop, 0), api.Inst{Op: api.IAlloc, Dst: 1, Imm: 256}, Inst(api.ILen, 2, 1), Call(3, 1), Read(4), Inst(api.IFree, -1, 0), Inst(api.ITop, 5))),
		Fun(0, Ends(Number(0, 4), Show(0))))
	wantStays(t, c, 0, 1, 2, 3, 4)
	holdEnd(t, c, api.Halt, nums(8), 4)
	deep := Program(Fun(0, Ends(api.Inst{Op: api.IAlloc, Dst: 0, Imm: 256}, Call(1, 0))))
	wantStays(t, deep, 0, 1)
	holdEnd(t, deep, api.StopHeap, nil)
}

// TestInstructionsStayAsTheyAre: all that is said of them, but for what is known.
func TestInstructionsStayAsTheyAre(t *testing.T) {
	sum := api.Inst{Op: api.Add, Dst: 2, Args: []int{0, 1}, Imm: 77, Site: -5, Dbg: []api.Dbg{{Kind: 99}, IsValue(0, 3, 1, 1), {Kind: api.DVar, Arg: -3}}}
	mark := At(2, Mark(), IsValue(0, 2, 3, 1), api.Dbg{Var: 1, Kind: api.DNum, Arg: 12345, A: 7, B: 8})
	c := Main(Ends(Read(0), Number(1, 3), sum, Inst(api.Not, 3, 2), mark, Show(2)))
	sum.Dbg = nil
	want := Main(Ends(Read(0), Number(1, 3), sum, At(2, Mark(), IsValue(0, 2, 3, 1), IsNumber(1, 8)), Show(2)))
	if d := mustRun(t, c); !reflect.DeepEqual(d, want) {
		t.Errorf("%+v, want\n%+v", d, want)
	}
	holdEnd(t, c, api.Halt, nums(4), 7)
}

// TestBlocksStay: empty ones, too, and how they end.
func TestBlocksStay(t *testing.T) {
	c := Main(Branch(0, 2, 1, Read(0), Number(1, 8)), Goes(3, Inst(api.Neg, 2, 1)), Goes(3, Number(3, 4)), Behind(Ends(Inst(api.Not, 5, 4)), Phi(4, 2, 3)))
	want := Main(Branch(0, 2, 1, Read(0)), Goes(3), Goes(3), Ends())
	if d := mustRun(t, c); !reflect.DeepEqual(d, want) {
		t.Errorf("%+v, want\n%+v", d, want)
	}
	holdEnd(t, c, api.Halt, nums(4))
}
