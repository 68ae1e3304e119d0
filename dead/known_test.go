package dead_test

import (
	"math"
	"reflect"
	"testing"

	"teasel/api"
	. "teasel/parts"
	"teasel/trace"
)

// TestToldByItsMaker: by each one that the chapter names, with a value that stays; the number stays, too, or is gone.
func TestToldByItsMaker(t *testing.T) {
	const n = 5
	for _, k := range nums(0, 1, 3, -2, 63, 64, 65, -1, 1<<40, math.MinInt64, math.MaxInt64) {
		for _, x := range []struct {
			maker api.Inst
			a, b  int64
		}{
			{Inst(api.Add, 2, 0, 1), 1, k}, {Inst(api.Add, 2, 1, 0), 1, k},
			{Inst(api.Sub, 2, 0, 1), 1, -k}, {Inst(api.Sub, 2, 1, 0), -1, k},
			{Inst(api.Mul, 2, 0, 1), k, 0}, {Inst(api.Mul, 2, 1, 0), k, 0},
			{Inst(api.Shl, 2, 0, 1), 1 << (uint64(k) % 64), 0},
			{Inst(api.Neg, 2, 0), -1, 0}, {Inst(api.Not, 2, 0), -1, -1}, {Inst(api.ICopy, 2, 0), 1, 0},
			{Number(2, k), 0, k}, {Inst(api.ICopy, 2, 1), 0, k}, {Inst(api.Neg, 2, 1), 0, -k},
		} {
			is := x.a*n + x.b
			for _, more := range [][]api.Inst{nil, {Show(1)}} {
				l := append([]api.Inst{Read(0), Number(1, k), x.maker, Mark(IsValue(0, 2, 1, 0), IsValue(1, 2, -3, 7), IsValue(2, 2, math.MinInt64, math.MaxInt64), IsNumber(3, 8)), Show(0)}, more...)
				c := Main(Ends(l...))
				wantShown(t, c, nums(n), 1, map[int]int64{0: is, 1: -3*is + 7, 2: math.MinInt64*is + math.MaxInt64, 3: 8})
				if len(more) == 0 {
					wantStays(t, c, 0)
				} else {
					wantStays(t, c, 0, 1)
				}
			}
		}
	}
}

// TestToldByRows: makers of makers, down to a value that stays, or to a number.
func TestToldByRows(t *testing.T) {
	row := []api.Inst{
		Number(1, 3), Inst(api.Mul, 2, 0, 1), Inst(api.ICopy, 3, 2), Inst(api.Not, 4, 3), Inst(api.Shl, 5, 4, 1), Inst(api.Sub, 6, 1, 5), Inst(api.Neg, 7, 6), Inst(api.Add, 8, 1, 7),
	}
	of := func(n int64) int64 { return 3 + -(3 - (^(n * 3) << 3)) }
	for _, x := range []struct {
		first api.Inst
		stays []int
	}{{Read(0), []int{0}}, {Number(0, 9), nil}} {
		c := Main(Ends(append(append([]api.Inst{x.first}, row...), Mark(IsValue(0, 8, 1, 0), IsValue(1, 8, 10, 1), IsValue(2, 2, 1, 0)))...))
		wantStays(t, c, x.stays...)
		wantShown(t, c, nums(9), 1, map[int]int64{0: of(9), 1: 10*of(9) + 1, 2: 27})
	}
	// What stays in between is named itself.
	c := Main(Ends(append(append([]api.Inst{Read(0)}, row...), Mark(IsValue(0, 8, 1, 0)), Show(5))...))
	wantStays(t, c, 0, 1, 2, 3, 4, 5)
	wantShown(t, c, nums(9), 1, map[int]int64{0: of(9)})
	if l := mustRun(t, c).Funs[0].Blocks[0].Insts; !reflect.DeepEqual(l[6].Dbg, []api.Dbg{IsValue(0, 5, 1, 0)}) {
		t.Errorf("%+v", l[6].Dbg)
	}
}

// TestNumbersGoRound: a and b at the bounds of their range.
func TestNumbersGoRound(t *testing.T) {
	for _, a := range nums(1, -1, 2, math.MinInt64, math.MaxInt64, 1<<32, 0) {
		for _, k := range nums(math.MinInt64, math.MaxInt64, 1<<32, -1) {
			for _, n := range nums(math.MinInt64, math.MaxInt64, 1<<33+1, -7) {
				c := Main(Ends(Read(0), Number(1, k), Inst(api.Mul, 2, 0, 1), Inst(api.Sub, 3, 1, 2), Inst(api.Add, 4, 3, 1), Mark(IsValue(0, 4, a, math.MaxInt64), IsValue(1, 3, a, math.MinInt64)), Show(0)))
				wantStays(t, c, 0)
				wantShown(t, c, nums(n), 1, map[int]int64{0: a*(k-n*k+k) + math.MaxInt64, 1: a*(k-n*k) + math.MinInt64})
			}
		}
	}
}

// TestWhatComesToANumber: times 0, or so often doubled that nothing is left.
func TestWhatComesToANumber(t *testing.T) {
	c := Main(Ends(Read(0), Number(1, 0), Number(2, 1<<32), Inst(api.Mul, 3, 0, 1), Inst(api.Mul, 4, 2, 0), Inst(api.Mul, 5, 4, 2), Inst(api.Mul, 6, 0, 0),
		Mark(IsValue(0, 3, 5, 4), IsValue(1, 5, 5, 3), IsValue(2, 6, 0, 9), IsValue(3, 4, 1<<32, 2), IsValue(4, 0, 0, 6))))
	wantStays(t, c, 0)
	if x := mustRun(t, c).Funs[0].Blocks[0].Insts[1]; !reflect.DeepEqual(x.Dbg, []api.Dbg{IsNumber(0, 4), IsNumber(1, 3), IsNumber(2, 9), IsNumber(3, 2), IsValue(4, 0, 0, 6)}) {
		t.Errorf("%+v", x.Dbg)
	}
	wantShown(t, c, nums(77), 1, map[int]int64{0: 4, 1: 3, 2: 9, 3: 2, 4: 6})
}

// TestSumsOfOneValue: of which nothing else is needed can be told, too; of two it can't.
func TestSumsOfOneValue(t *testing.T) {
	c := Main(Ends(Read(0), Read(1), Number(2, 3), Inst(api.Mul, 3, 0, 2), Inst(api.Add, 4, 3, 0), Inst(api.Sub, 5, 0, 4), Inst(api.Sub, 6, 4, 4), Inst(api.Add, 7, 0, 1), Inst(api.Mul, 8, 0, 0), Inst(api.Shl, 9, 2, 0),
		Mark(IsValue(0, 4, 1, 0), IsValue(1, 5, 1, 1), IsValue(2, 6, 1, 2), IsValue(3, 7, 1, 0), IsValue(4, 8, 1, 0), IsValue(5, 9, 1, 0))))
	wantStays(t, c, 0, 1)
	wantShown(t, c, nums(10, 20), 1, map[int]int64{0: 40, 1: -29, 2: 2})
}

// TestWhatCanNotBeTold: any more, at marks and at calls, and by way of others; what stands beside it is told.
func TestWhatCanNotBeTold(t *testing.T) {
	for _, x := range spare() {
		switch x.Op {
		case api.IConst, api.Add, api.Sub, api.Neg, api.Not, api.ICopy, api.IParam:
			continue
		}
		l := []api.Inst{Read(0), Read(1), x, Number(3, 5), Inst(api.Add, 4, 2, 3), Inst(api.Neg, 5, 4), Inst(api.Sub, 6, 3, 0)}
		known := []api.Dbg{IsValue(0, 2, 1, 0), IsValue(1, 6, 1, 1), IsValue(2, 5, 1, 0), Deeper(1, IsValue(0, 4, 1, 0)), Deeper(1, IsValue(1, 3, 2, 2))}
		c := Program(Fun(0, Ends(append(l, At(1, Mark(), known...), At(3, Call(-1, 1), known...))...)), Fun(0, Ends(Mark())))
		wantStays(t, c, 0, 1)
		wantShown(t, c, nums(3, 4), 1, map[int]int64{1: 3})
		got, _, _ := trace.State(mustRun(t, c), nums(3, 4), 2, 99)
		want := []api.Frame{{Fn: 0, Stmt: 1}, {Fn: 0, Stmt: 4, Vars: []api.Shown{{Var: 1, Has: true, N: 3}}}, {Fn: 7, Stmt: 23, Vars: []api.Shown{{Var: 1, Has: true, N: 12}}}}
		if len(got) != 3 || !reflect.DeepEqual(got[1:], want[1:]) {
			t.Errorf("%+v: %+v, want\n%+v", x, got, want)
		}
	}
}

// TestPhisAndParametersThatAreGone: they can't be told, nor what is made of them.
func TestPhisAndParametersThatAreGone(t *testing.T) {
	c := Program(
		Fun(0, Ends(Number(0, 6), Call(-1, 1, 0))),
		Fun(1,
			Branch(1, 1, 2, Param(0, 0), Read(1), Number(2, 3), Inst(api.Add, 3, 0, 2)),
			Goes(3), Goes(3),
			Behind(Ends(Inst(api.Neg, 5, 4), Mark(IsValue(0, 4, 1, 0), IsValue(1, 5, 1, 0), IsValue(2, 3, 1, 0), IsValue(3, 2, 1, 0), IsValue(4, 1, 2, 0))), Phi(4, 1, 2))))
	wantShown(t, c, nums(8), 1, map[int]int64{3: 3, 4: 16})
	if n := Count(mustRun(t, c), api.IPhi) + Count(mustRun(t, c), api.IParam); n != 0 {
		t.Error(n)
	}
}

// TestToldFromTurnToTurn: in a loop what is told by a value is told by what that is in this turn.
func TestToldFromTurnToTurn(t *testing.T) {
	c := Main(
		Goes(1, Number(0, 0), Number(1, 1), Read(2), Number(9, 12)),
		Behind(Branch(4, 2, 3, Inst(api.Lt, 4, 3, 2), Inst(api.Mul, 5, 3, 9), Mark(IsValue(0, 3, 1, 0), IsValue(1, 5, 1, 0))), Phi(3, 0, 6)),
		Goes(1, Inst(api.Add, 6, 3, 1), Inst(api.Shl, 7, 6, 1), Mark(IsValue(0, 6, 1, 0), IsValue(1, 5, 1, 0), IsValue(2, 7, 1, 0))),
		Ends(Mark(IsValue(0, 5, 1, 0), IsValue(1, 3, 1, 0))))
	wantStays(t, c, 0, 1, 2, 3, 4, 6)
	wantShown(t, c, nums(2), 3, map[int]int64{0: 1, 1: 12})
	wantShown(t, c, nums(2), 4, map[int]int64{0: 2, 1: 12, 2: 4})
	wantShown(t, c, nums(2), 6, map[int]int64{0: 24, 1: 2})
}

// TestWhatIsKnownNeedsNothing: but what stays is known by its own value.
func TestWhatIsKnownNeedsNothing(t *testing.T) {
	c := Program(Fun(0, Ends(Read(0), Number(1, 4), Inst(api.Mul, 2, 0, 1), At(1, Call(-1, 1), IsValue(0, 2, 1, 0), Deeper(1, IsValue(0, 1, 2, 1))), Show(0))), Fun(0, Ends(Mark())))
	wantStays(t, c, 0)
	holdEnd(t, c, api.Halt, nums(3), 3)
	l, _, _ := trace.State(mustRun(t, c), nums(3), 1, 99)
	if len(l) != 3 || l[1].Vars[0].N != 12 || l[2].Vars[0].N != 9 {
		t.Errorf("%+v", l)
	}
}
