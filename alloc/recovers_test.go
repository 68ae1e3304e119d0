package alloc_test

import (
	"math"
	"reflect"
	"testing"

	"teasel/alloc"
	"teasel/api"
	. "teasel/parts"
)

// wantTold holds what is told at an instruction of the first function's first block, without all.
func wantTold(t *testing.T, name string, c api.Code, at int, want ...api.Dbg) {
	t.Helper()
	got, e := alloc.Recovers(c, 0, false, 0, at)
	if e != api.OK || len(got)+len(want) > 0 && !reflect.DeepEqual(got, want) {
		t.Errorf("%s: %d, %+v, want %+v", name, e, got, want)
	}
	for input := range int64(3) {
		holdRecovers(t, c, numbers(input*5-4, 7, input, -1, 3), 300)
	}
}

// TestNumbersStay: as they are, and so does what is known by values that are live.
func TestNumbersStay(t *testing.T) {
	known := []api.Dbg{IsValue(4, 0, 3, 5), IsNumber(0, math.MinInt64), IsValue(2, 1, 0, 6), Deeper(1, IsNumber(9, 4)), Deeper(1, IsValue(3, 2, -1, math.MaxInt64)), {Var: 8, Kind: api.DNum, Arg: 77, A: 5, B: 1}}
	c := Main(Ends(Read(0), Number(1, 9), Inst(api.Add, 2, 0, 1), At(1, Mark(), known...), Show(0), Show(1), Show(2)))
	wantTold(t, "all live", c, 3, known...)
}

// TestToldByItsMaker: by each one that layer 12 names, of a value that is live; the number is live, too, or isn't.
func TestToldByItsMaker(t *testing.T) {
	for _, k := range edges() {
		for _, x := range []struct {
			maker api.Inst
			a, b  int64
		}{
			{Inst(api.Add, 2, 0, 1), 1, k}, {Inst(api.Add, 2, 1, 0), 1, k},
			{Inst(api.Sub, 2, 0, 1), 1, -k}, {Inst(api.Sub, 2, 1, 0), -1, k},
			{Inst(api.Mul, 2, 0, 1), k, 0}, {Inst(api.Mul, 2, 1, 0), k, 0},
			{Inst(api.Shl, 2, 0, 1), 1 << (uint64(k) % 64), 0},
			{Inst(api.Neg, 2, 0), -1, 0}, {Inst(api.Not, 2, 0), -1, -1}, {Inst(api.ICopy, 2, 0), 1, 0},
			{Number(2, k), 0, k}, {Inst(api.ICopy, 2, 1), 0, k}, {Inst(api.Neg, 2, 1), 0, -k},
		} {
			for _, more := range [][]api.Inst{{Show(0)}, {Show(0), Show(1)}} {
				known := []api.Dbg{IsValue(0, 2, 1, 0), IsValue(1, 2, -3, 7), Deeper(1, IsValue(1, 2, math.MinInt64, math.MaxInt64))}
				var want []api.Dbg
				for _, d := range known {
					told := api.Dbg{Depth: d.Depth, Var: d.Var, Kind: api.DNum, B: d.A*x.b + d.B}
					if a := d.A * x.a; a != 0 {
						told.Kind, told.A = api.DVal, a
					}
					want = append(want, told)
				}
				if more := len(more) > 1; more && (x.maker.Op == api.ICopy || x.maker.Op == api.Neg) && x.maker.Args[0] == 1 {
					continue // which of two that are right is told is free there
				}
				c := Main(Ends(append([]api.Inst{Read(0), Number(1, k), x.maker, At(1, Mark(), known...)}, more...)...))
				wantTold(t, told(x), c, 3, want...)
			}
		}
	}
}

// TestToldByRows: makers of makers, down to a value that is live, or to a number.
func TestToldByRows(t *testing.T) {
	row := []api.Inst{Number(1, 3), Inst(api.Mul, 2, 0, 1), Inst(api.ICopy, 3, 2), Inst(api.Not, 4, 3), Inst(api.Shl, 5, 4, 1), Inst(api.Sub, 6, 1, 5), Inst(api.Neg, 7, 6), Inst(api.Add, 8, 1, 7)}
	// v8 = 3 - (3 - (^(3 v0) << 3)) = -24 v0 - 8
	for _, x := range []struct {
		first api.Inst
		used  int
		want  []api.Dbg
	}{
		{Read(0), 0, []api.Dbg{IsValue(0, 0, -24, -8), IsValue(1, 0, -240, -79), IsValue(2, 0, 3, 0)}},
		{Read(0), 5, []api.Dbg{IsValue(0, 5, 1, 0), IsValue(1, 5, 10, 1)}},
		{Read(0), 2, []api.Dbg{IsValue(0, 2, -8, -8), IsValue(1, 2, -80, -79), IsValue(2, 2, 1, 0)}},
		{Number(0, 9), 99, []api.Dbg{IsNumber(0, -224), IsNumber(1, -2239), IsNumber(2, 27)}},
	} {
		l := append(append([]api.Inst{x.first}, row...), Mark(IsValue(0, 8, 1, 0), IsValue(1, 8, 10, 1), IsValue(2, 2, 1, 0)))
		if x.used != 99 {
			l = append(l, Show(x.used))
		}
		wantTold(t, told(x), Main(Ends(l...)), 9, x.want...)
	}
}

// TestNumbersGoRound: a and b at the edges of 64 bits, and what comes to a number as nothing is left of the value.
func TestNumbersGoRound(t *testing.T) {
	for _, a := range edges() {
		for _, k := range edges() {
			c := Main(Ends(Read(0), Number(1, k), Inst(api.Mul, 2, 0, 1), Inst(api.Sub, 3, 1, 2), Inst(api.Add, 4, 3, 1), Mark(IsValue(0, 4, a, math.MaxInt64), IsValue(1, 3, a, math.MinInt64)), Show(0)))
			want := []api.Dbg{IsValue(0, 0, -a*k, a*(k+k)+math.MaxInt64), IsValue(1, 0, -a*k, a*k+math.MinInt64)}
			if a*k == 0 {
				want = []api.Dbg{IsNumber(0, a*(k+k)+math.MaxInt64), IsNumber(1, a*k+math.MinInt64)}
			}
			wantTold(t, told([]int64{a, k}), c, 5, want...)
		}
	}
}

// TestWhatCanNotBeTold: what is made otherwise, or of other values that aren't live, is left out, also where it is taken no times; what stands beside it is told.
func TestWhatCanNotBeTold(t *testing.T) {
	beside := IsNumber(7, 7)
	for name, x := range map[string]api.Inst{
		"read":                        Read(2),
		"allocated":                   {Op: api.IAlloc, Dst: 2, Imm: 3},
		"called":                      Call(2, 1),
		"divided by a number":         Inst(api.Div, 2, 0, 1),
		"what a number leaves":        Inst(api.Rem, 2, 0, 1),
		"shifted to the right":        Inst(api.Shr, 2, 0, 1),
		"a shifted number":            Inst(api.Shl, 2, 1, 0),
		"a sum of two values":         Inst(api.Add, 2, 0, 3),
		"a sum of one value":          Inst(api.Add, 2, 0, 0),
		"a difference of one value":   Inst(api.Sub, 2, 0, 0),
		"a product of two values":     Inst(api.Mul, 2, 0, 3),
		"a product with a copy":       Inst(api.Mul, 2, 0, 4),
		"bits of a number":            Inst(api.And, 2, 0, 1),
		"compared with a number":      Inst(api.Lt, 2, 0, 1),
		"not so":                      Inst(api.Bang, 2, 0),
		"a sum with what isn't live":  Inst(api.Add, 2, 1, 6),
		"a copy of what isn't live":   Inst(api.ICopy, 2, 6),
		"how much of the heap is had": {Op: api.ITop, Dst: 2},
	} {
		l := []api.Inst{Read(0), Number(1, 5), Read(3), Inst(api.ICopy, 4, 1), Read(6), Show(6), x}
		for _, more := range [][]api.Inst{nil, {Inst(api.Neg, 8, 2), Inst(api.Add, 9, 1, 8), Inst(api.ICopy, 5, 9)}} {
			of := 2
			if more != nil {
				of = 5
			}
			known := []api.Dbg{IsValue(0, of, 1, 0), IsValue(1, of, -3, 2), beside, IsValue(2, of, 0, 2), IsValue(3, 0, 2, 1), Deeper(1, IsValue(0, of, 1, 0))}
			at := len(l) + len(more)
			insts := append(append(append([]api.Inst{}, l...), more...), At(1, Mark(), known...), Show(0), Show(3), Show(4))
			wantTold(t, name, Program(Fun(0, Ends(insts...)), Fun(0, Ends())), at, beside, IsValue(3, 0, 2, 1))
		}
	}
}

// TestPhisAndParameters: where they aren't live they can't be told, nor what is made of them; where they are, it can.
func TestPhisAndParameters(t *testing.T) {
	c := Program(Fun(0, Ends(Number(0, 3), Call(-1, 1, 0))),
		Fun(1, Goes(1, Param(0, 0), Number(1, 2), Inst(api.Mul, 2, 0, 1)), Behind(Branch(4, 1, 2, Inst(api.Add, 5, 3, 1), Mark(IsValue(0, 5, 1, 0), IsValue(1, 3, 1, 0), IsValue(2, 2, 1, 0)), Read(4)), Phi(3, 0, 5)), Ends(Mark(IsValue(0, 5, 1, 0), IsValue(1, 3, 1, 0)))))
	d, n := recovered(t, c, false)
	if got := d.Funs[1].Blocks[1].Insts[1].Dbg; !reflect.DeepEqual(got, []api.Dbg{IsValue(0, 5, 1, 0)}) {
		t.Errorf("%+v", got)
	}
	if got := d.Funs[1].Blocks[2].Insts[0].Dbg; len(got) != 0 || n != [3]int{1, 0, 4} {
		t.Errorf("%+v, %v", got, n)
	}
	c.Funs[1].Blocks[2].Insts = append(c.Funs[1].Blocks[2].Insts, Show(3), Show(0))
	d, _ = recovered(t, c, false)
	if got := d.Funs[1].Blocks[1].Insts[1].Dbg; !reflect.DeepEqual(got, []api.Dbg{IsValue(0, 5, 1, 0), IsValue(1, 3, 1, 0), IsValue(2, 0, 2, 0)}) {
		t.Errorf("%+v", got)
	}
	if got := d.Funs[1].Blocks[2].Insts[0].Dbg; !reflect.DeepEqual(got, []api.Dbg{IsValue(0, 3, 1, 2), IsValue(1, 3, 1, 0)}) {
		t.Errorf("%+v", got)
	}
	holdRecovers(t, c, numbers(1, 1, 0), 300)
}

// TestCalls: what a call takes is live ahead of it, what it answers isn't; frames behind the first are told, too.
func TestCalls(t *testing.T) {
	known := []api.Dbg{Deeper(1, IsValue(0, 2, 1, 1)), IsValue(0, 0, 1, 0), IsValue(1, 3, 2, 0), Deeper(1, IsNumber(2, 3)), Deeper(1, IsValue(1, 1, 1, 0))}
	c := Program(Fun(0, Ends(Read(0), Number(1, 4), Inst(api.Add, 2, 0, 1), Read(3), At(1, Call(5, 1, 0), known...), Show(5))), Fun(1, Answers(0, Param(0, 0), Mark())))
	wantTold(t, "a call", c, 4, Deeper(1, IsValue(0, 0, 1, 5)), IsValue(0, 0, 1, 0), Deeper(1, IsNumber(2, 3)), Deeper(1, IsNumber(1, 4)))
	if got, e := alloc.Recovers(c, 0, true, 0, 4); e != api.OK || !reflect.DeepEqual(got, known) {
		t.Error(e, got)
	}
	if got, e := alloc.Recovers(c, 1, false, 0, 1); e != api.OK || len(got) != 0 {
		t.Error(e, got)
	}
}

// TestFromTurnToTurn: in a loop what is told by a value is told by what that is in this turn.
func TestFromTurnToTurn(t *testing.T) {
	c := Main(
		Goes(1, Number(0, 0), Number(1, 1), Read(2), Number(9, 12)),
		Behind(Branch(4, 2, 3, Inst(api.Lt, 4, 3, 2), Inst(api.Mul, 5, 3, 9), Mark(IsValue(0, 3, 1, 0), IsValue(1, 5, 1, 0))), Phi(3, 0, 6)),
		Goes(1, Inst(api.Add, 6, 3, 1), Inst(api.Shl, 7, 6, 1), Mark(IsValue(0, 6, 1, 0), IsValue(1, 5, 1, 0), IsValue(2, 7, 1, 0), IsValue(3, 3, 1, 0))),
		Ends(Mark(IsValue(0, 5, 1, 0), IsValue(1, 3, 1, 0))))
	for n := range int64(4) {
		holdRecovers(t, c, numbers(n), 300)
	}
	d, n := recovered(t, c, false)
	if got := d.Funs[0].Blocks[2].Insts[2].Dbg; !reflect.DeepEqual(got, []api.Dbg{IsValue(0, 6, 1, 0), IsValue(2, 6, 2, 0)}) || n != [3]int{2, 2, 4} {
		t.Errorf("%+v, %v", got, n)
	}
}
