package fold_test

import (
	"math"
	"reflect"
	"testing"

	"teasel/api"
	. "teasel/parts"
	"teasel/trace"
)

// wantShown holds what is shown at the mark k in its innermost frame: of each variable its number.
func wantShown(t *testing.T, c api.Code, input []int64, k int, want map[int]int64) {
	t.Helper()
	hold(t, c, input, 1000)
	l, _, e := trace.State(mustRun(t, c), input, k, 20000)
	if e != api.OK {
		t.Fatal("no such mark", k, e)
	}
	had := map[int]int64{}
	for _, s := range l[0].Vars {
		had[s.Var] = s.N
	}
	if !reflect.DeepEqual(had, want) {
		t.Errorf("at the mark %d is shown %v, want %v", k, had, want)
	}
}

// TestKnownOfValuesThatAreNumbers: a times the number, and b, modulo 2^64; what is known as a number stays it.
func TestKnownOfValuesThatAreNumbers(t *testing.T) {
	c := Main(Ends(Number(0, 5), Read(1), Inst(api.Add, 2, 0, 0), Number(3, math.MinInt64), Inst(api.Sub, 4, 3, 0),
		Mark(IsValue(0, 0, 1, 0), IsValue(1, 1, 3, 4), IsValue(2, 2, -2, 3), IsNumber(3, 77), IsValue(4, 4, 2, 1), IsValue(5, 3, 1, -1), IsValue(6, 2, 0, 9)), Show(1)))
	wantShown(t, c, nums(6), 1, map[int]int64{0: 5, 1: 22, 2: -17, 3: 77, 4: -9, 5: math.MaxInt64, 6: 9})
	for _, x := range mustRun(t, c).Funs[0].Blocks[0].Insts {
		if x.Op != api.IMark {
			continue
		}
		want := []api.Dbg{IsNumber(0, 5), IsValue(1, 1, 3, 4), IsNumber(2, -17), IsNumber(3, 77), IsNumber(4, -9), IsNumber(5, math.MaxInt64), IsNumber(6, 9)}
		if !reflect.DeepEqual(x.Dbg, want) {
			t.Errorf("%+v, want\n%+v", x.Dbg, want)
		}
	}
}

// TestKnownOfOuterFrames: at marks and at calls, each frame by its depth.
func TestKnownOfOuterFrames(t *testing.T) {
	c := Program(
		Fun(0, Ends(Number(0, 5), Inst(api.Mul, 1, 0, 0), Read(2), At(1, Mark(), Deeper(1, IsValue(0, 1, 1, 0)), IsValue(0, 0, 1, 1), Deeper(1, IsValue(3, 2, 1, 0))),
			At(3, Call(-1, 1, 1), Deeper(1, IsValue(2, 1, 2, 0)), IsValue(4, 2, 1, 0), IsNumber(5, 8)))),
		Fun(1, Ends(Param(0, 0), Number(1, 3), Inst(api.Neg, 2, 1), At(2, Mark(), IsValue(0, 0, 1, 0), IsValue(1, 2, 1, 0)))))
	hold(t, c, nums(9), 99)
	d := mustRun(t, c)
	l, _, e := trace.State(d, nums(9), 2, 999)
	want := []api.Frame{{Fn: 2, Stmt: 3, Vars: []api.Shown{{Var: 0, Has: true, N: 25}, {Var: 1, Has: true, N: -3}}},
		{Fn: 0, Stmt: 4, Vars: []api.Shown{{Var: 4, Has: true, N: 9}, {Var: 5, Has: true, N: 8}}}, {Fn: 7, Stmt: 23, Vars: []api.Shown{{Var: 2, Has: true, N: 50}}}}
	if e != api.OK || !reflect.DeepEqual(l, want) {
		t.Errorf("%d: %+v, want\n%+v", e, l, want)
	}
}

// TestKnownOfPhis: a variable whose phi is known is that number, one whose phi lost an Arg is what is left.
func TestKnownOfPhis(t *testing.T) {
	c := Main(
		Branch(0, 1, 2, Read(0), Number(1, 4), Number(2, 4), Read(3)),
		Goes(3), Goes(3),
		Behind(Branch(4, 4, 5, Mark(IsValue(0, 4, 3, 1), IsValue(1, 5, 1, 0))), Phi(4, 1, 2), Phi(5, 3, 2)),
		Goes(5, Mark(IsValue(1, 5, 1, 0))),
		Behind(Ends(Mark(IsValue(0, 6, 2, 0), IsValue(2, 7, 1, 0))), Phi(6, 3, 4), Phi(7, 1, 5)))
	wantShown(t, c, nums(1, 60), 1, map[int]int64{0: 13, 1: 60})
	wantShown(t, c, nums(0, 60), 2, map[int]int64{1: 4})
	wantShown(t, c, nums(0, 60), 3, map[int]int64{0: 8, 2: 4})
	wantShown(t, c, nums(1, 60), 3, map[int]int64{0: 8, 2: 60})
}

// TestMarksThatAreNotReached: they are gone with what they know.
func TestMarksThatAreNotReached(t *testing.T) {
	c := Main(Branch(0, 1, 2, Number(0, 0), Read(1), Mark(IsValue(0, 0, 1, 0))), Goes(2, Mark(IsValue(0, 1, 1, 0))), Ends(Mark(IsValue(0, 1, 1, 0))))
	wantShown(t, c, nums(3), 1, map[int]int64{0: 0})
	wantShown(t, c, nums(3), 2, map[int]int64{0: 3})
	if n := Count(mustRun(t, c), api.IMark); n != 2 {
		t.Error(n)
	}
}

// TestWhatIsNotLookedAt: it changes nothing.
func TestWhatIsNotLookedAt(t *testing.T) {
	junk := Inst(api.Add, 2, 0, 1)
	junk.Imm, junk.Site, junk.Dbg = 77, -5, []api.Dbg{IsValue(3, 900, 1, 2), {Kind: 99}, {Kind: api.DVar, Arg: -3}}
	other := Inst(api.Sub, 5, 1, 4)
	other.Imm, other.Site, other.Dbg = 78, -6, []api.Dbg{IsValue(3, 901, 1, 2)}
	first := Goes(1, Number(0, 6), Number(1, 7), junk, Read(4), other)
	first.Else, first.Arg = 1234, -77
	last := Behind(Answers(2, Show(5), At(2, Mark(), IsValue(0, 2, 1, 1), api.Dbg{Var: 1, Kind: api.DNum, Arg: 12345, A: 7, B: 8})), Phi(9, 4))
	last.To, last.Else = -3, 99
	c := Main(first, last)
	c.Funs[0].Vars = 9
	holdEnd(t, c, api.Halt, nums(5), 2)
	wantShown(t, c, nums(5), 1, map[int]int64{0: 14, 1: 8})
	wantNumber(t, c, 2, 13)
	want := Main(
		Goes(1, Number(0, 6), Number(1, 7), Number(2, 13), Read(4), api.Inst{Op: api.Sub, Dst: 5, Args: []int{1, 4}, Imm: 78, Site: -6}),
		Behind(Answers(2, Show(5), At(2, Mark(), IsNumber(0, 14), IsNumber(1, 8))), Phi(9, 4)))
	if d := mustRun(t, c); !reflect.DeepEqual(d, want) {
		t.Errorf("%+v, want\n%+v", d, want)
	}
}
