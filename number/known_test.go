package number_test

import (
	"reflect"
	"testing"

	"teasel/api"
	. "teasel/parts"
	"teasel/trace"
)

// wantShown holds what is shown at the mark k in its innermost frame: of each variable its number.
func wantShown(t *testing.T, c api.Code, input []int64, k int, want map[int]int64) {
	t.Helper()
	hold(t, c, input, 1000)
	l, _, e := trace.State(mustRun(t, c), input, k, 20000)
	if e != api.OK {
		t.Fatal("no such mark", k, e)
	}
	had := map[int]int64{}
	for _, s := range l[0].Vars {
		had[s.Var] = s.N
	}
	if !reflect.DeepEqual(had, want) {
		t.Errorf("at the mark %d is shown %v, want %v", k, had, want)
	}
}

// TestKnownOfValuesThatAreGone: what stands for them tells the same, a times it, and b.
func TestKnownOfValuesThatAreGone(t *testing.T) {
	c := Main(
		Branch(0, 1, 2, Read(0), Read(1), Inst(api.Add, 2, 0, 1), Inst(api.Add, 3, 1, 0), Inst(api.ICopy, 4, 3), Mark(IsValue(0, 2, 1, 0), IsValue(1, 3, 2, 1), IsValue(2, 4, -1, 5), IsNumber(3, 8))),
		Goes(3, Number(5, 9)), Goes(3, Inst(api.Add, 6, 0, 1)),
		Behind(Ends(Mark(IsValue(0, 7, 1, 0), IsValue(1, 8, 3, 0), IsValue(2, 9, 1, 1)), Show(4)), Phi(7, 4, 6), Phi(8, 0, 1), Phi(9, 0, 1)))
	wantShown(t, c, nums(4, 6), 1, map[int]int64{0: 10, 1: 21, 2: -5, 3: 8})
	wantShown(t, c, nums(4, 6), 2, map[int]int64{0: 10, 1: 12, 2: 5})
	wantShown(t, c, nums(0, 6), 2, map[int]int64{0: 6, 1: 18, 2: 7})
	wantCount(t, c, api.IPhi, 1)
	wantCount(t, c, api.Add, 1)
}

// TestKnownOfOuterFrames: at marks and at calls, each frame by its depth.
func TestKnownOfOuterFrames(t *testing.T) {
	c := Program(
		Fun(0, Ends(Read(0), Inst(api.ICopy, 1, 0), Inst(api.Mul, 2, 0, 1), Inst(api.Mul, 3, 1, 0), At(1, Mark(), Deeper(1, IsValue(0, 3, 1, 0)), IsValue(0, 1, 1, 1)),
			At(3, Call(-1, 1, 3), Deeper(1, IsValue(2, 3, 2, 0)), IsValue(4, 1, 1, 0), IsNumber(5, 8)), Show(2))),
		Fun(1, Ends(Param(0, 0), Inst(api.ICopy, 1, 0), At(2, Mark(), IsValue(0, 0, 1, 0), IsValue(1, 1, 1, 0)))))
	holdEnd(t, c, api.Halt, nums(5), 25)
	l, _, e := trace.State(mustRun(t, c), nums(5), 2, 999)
	want := []api.Frame{{Fn: 2, Stmt: 3, Vars: []api.Shown{{Var: 0, Has: true, N: 25}, {Var: 1, Has: true, N: 25}}},
		{Fn: 0, Stmt: 4, Vars: []api.Shown{{Var: 4, Has: true, N: 5}, {Var: 5, Has: true, N: 8}}}, {Fn: 7, Stmt: 23, Vars: []api.Shown{{Var: 2, Has: true, N: 50}}}}
	if e != api.OK || !reflect.DeepEqual(l, want) {
		t.Errorf("%d: %+v, want\n%+v", e, l, want)
	}
}

// TestWhatIsNotLookedAt: it makes no two reckonings unlike, and changes nothing.
func TestWhatIsNotLookedAt(t *testing.T) {
	junk := func(dst, n int, x api.Inst) api.Inst {
		x.Dst, x.Imm, x.Site, x.Dbg = dst, int64(n), -n, []api.Dbg{IsValue(3, 900+n, 1, 2), {Kind: 99}, {Kind: api.DVar, Arg: -3}}
		return x
	}
	first := Goes(1, Read(0), Read(1), junk(2, 77, Inst(api.Add, 2, 0, 1)), junk(3, 78, Inst(api.Add, 3, 0, 1)))
	first.Else, first.Arg = 1234, -77
	last := Behind(Answers(3, Show(3), Show(9), At(2, Mark(), IsValue(0, 3, 1, 1), api.Dbg{Var: 1, Kind: api.DNum, Arg: 12345, A: 7, B: 8})), junk(9, 5, Phi(9, 1)))
	last.To, last.Else = -3, 99
	c := Main(first, last)
	c.Funs[0].Vars = 9
	holdEnd(t, c, api.Halt, nums(5, 6), 11, 6)
	sum := Inst(api.Add, 2, 0, 1)
	sum.Imm, sum.Site = 77, -77
	first, last = Goes(1, Read(0), Read(1), sum), Answers(2, Show(2), Show(1), At(2, Mark(), IsValue(0, 2, 1, 1), IsNumber(1, 8)))
	first.Else, last.To, last.Else = 1234, -3, 99
	want := Main(first, last)
	if d := mustRun(t, c); !reflect.DeepEqual(d, want) {
		t.Errorf("%+v, want\n%+v", d, want)
	}
}
