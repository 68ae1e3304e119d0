package ssa_test

import (
	"reflect"
	"slices"
	"testing"

	"teasel/api"
	"teasel/code"
	"teasel/ssa"
	"teasel/trace"
)

// TestExampleOfTheChapter: what is answered is the value that was set, or a copy of it.
func TestExampleOfTheChapter(t *testing.T) {
	c := main(answers(4, inst(api.IRead, 3), set(0, 3), get(4, 0)))
	holdOuts(t, c, nums(8))
	b := mustBuild(t, c).Funs[0].Blocks[0]
	if b.Arg != 3 && !slices.ContainsFunc(b.Insts, func(x api.Inst) bool { return x.Op == api.ICopy && x.Dst == b.Arg && x.Args[0] == 3 }) {
		t.Errorf("%+v", b)
	}
}

// TestCodeWithoutVariables: it becomes the same; variables that nobody names are gone.
func TestCodeWithoutVariables(t *testing.T) {
	c := program(
		fun(0,
			goes(1, number(0, 5), number(1, 1), at(2, call(2, 1, 0, 1), isValue(0, 0, 3, 1), isNumber(7, 4))),
			behind(branch(4, 1, 2, at(3, inst(api.IMark, -1), isValue(1, 3, 1, 0)), show(3), inst(api.Sub, 4, 3, 1)), phi(3, 0, 4)),
			answers(3, inst(api.ICopy, 6, 4))),
		fun(2, answers(2, param(0, 0), param(1, 1), inst(api.Add, 2, 0, 1))))
	want := code.Copy(c)
	for i, vals := range []int{7, 3} {
		want.Funs[i].Vars, want.Funs[i].Vals = 0, vals
	}
	if d := mustBuild(t, c); !reflect.DeepEqual(d, want) {
		t.Errorf("%+v, want\n%+v", d, want)
	}
	holdOuts(t, c, nil, 5, 4, 3, 2, 1)
	hold(t, main(ends()), nil, 9)
	hold(t, program(api.Fun{Blocks: []api.Block{ends()}}), nil, 9)
	hold(t, api.Code{Funs: []api.Fun{{Blocks: []api.Block{ends()}}}}, nil, 9)
}

// TestSetOnNoWay: a variable has 0, in each call anew.
func TestSetOnNoWay(t *testing.T) {
	holdOuts(t, main(ends(get(0, 5), show(0))), nil, 0)
	holdOuts(t, main(answers(0, get(0, 5))), nil)
	holdOuts(t, main(ends(show2(1, 0)...)), nil, 0, 7)
	f := fun(1, ends(param(0, 0), get(1, 2), show(1), set(2, 0), get(3, 2), show(3), get(4, 3), set(2, 4), get(5, 2), show(5)))
	c := program(fun(0, ends(number(0, 8), set(2, 0), number(1, 9), call(-1, 1, 1), get(2, 2), show(2), call(-1, 1, 2), get(3, 3), show(3))), f)
	holdOuts(t, c, nil, 0, 9, 0, 8, 0, 8, 0, 0)
	wantPhis(t, c, 0)
}

// show2 prints a variable, and prints it again where another number was set.
func show2(dst, variable int) []api.Inst {
	return []api.Inst{get(dst, variable), show(dst), number(dst+1, 7), set(variable, dst+1), get(dst+2, variable), show(dst + 2)}
}

// TestSetOnOneWay: there it has that number, on the other way what it had ahead; 0, if nothing.
func TestSetOnOneWay(t *testing.T) {
	for _, ahead := range [][]api.Inst{{number(9, 1)}, {number(9, 1), set(0, 9)}} {
		for _, ends := range [][2]int{{1, 2}, {2, 1}} {
			first := branch(0, ends[0], ends[1], append(slices.Clone(ahead), inst(api.IRead, 0))...)
			c := main(first, goes(2, number(1, 44), set(0, 1)), answers(2, get(2, 0), show(2)))
			was := int64(len(ahead) - 1)
			if ends[0] == 1 {
				holdOuts(t, c, nums(3), 44)
				holdOuts(t, c, nums(0), was)
			} else {
				holdOuts(t, c, nums(3), was)
				holdOuts(t, c, nums(0), 44)
			}
			wantPhis(t, c, 1)
		}
	}
}

// TestSetOnEachWay: a phi stands behind them, if the variable is asked for there.
func TestSetOnEachWay(t *testing.T) {
	both := func(last ...api.Inst) api.Code {
		return main(branch(0, 2, 1, inst(api.IRead, 0)), goes(3, number(1, 10), set(4, 1)), goes(3, number(2, 20), set(4, 2)), ends(last...))
	}
	c := both(get(5, 4), show(5))
	holdOuts(t, c, nums(1), 20)
	holdOuts(t, c, nums(0), 10)
	wantPhis(t, c, 1)
	c = both(mark(4))
	wantShown(t, c, nums(1), 1, map[int]int64{4: 20})
	wantShown(t, c, nums(0), 1, map[int]int64{4: 10})
	wantPhis(t, c, 1)
	for _, last := range [][]api.Inst{nil, {number(5, 3), set(4, 5), get(6, 4), show(6)}, {get(5, 3), show(5)}, {mark(3)}} {
		wantPhis(t, both(last...), 0)
	}
}

// TestLoops: a variable is got ahead of its setting, in the round behind the one that set it, and behind the loop.
func TestLoops(t *testing.T) {
	c := main(
		goes(1, inst(api.IRead, 0), set(0, 0)),
		branch(2, 2, 3, get(1, 1), show(1), mark(0, 1), get(2, 0)),
		goes(1, get(3, 0), number(4, 1), inst(api.Sub, 5, 3, 4), set(0, 5), inst(api.Mul, 6, 3, 3), set(1, 6), mark(0, 1)),
		answers(8, get(7, 0), get(8, 1), show(7), show(8), mark(1, 0)))
	holdOuts(t, c, nums(3), 0, 9, 4, 1, 0, 1)
	holdOuts(t, c, nums(0), 0, 0, 0)
	wantPhis(t, c, 2)
	for k, want := range []map[int]int64{{0: 2, 1: 0}, {0: 1, 1: 4}, {0: 1, 1: 4}, {0: 0, 1: 1}, {0: 0, 1: 1}, {0: 0, 1: 1}} {
		wantShown(t, c, nums(2), k+1, want)
	}
}

// TestALoopOfOneBlock: which goes on to itself.
func TestALoopOfOneBlock(t *testing.T) {
	c := main(
		goes(1, inst(api.IRead, 0), set(0, 0), number(1, 1)),
		branch(3, 1, 2, mark(0, 1), get(2, 0), inst(api.Sub, 3, 2, 1), set(0, 3), show(2), get(4, 1), inst(api.Add, 5, 4, 2), set(1, 5)),
		answers(6, get(6, 1), show(6)))
	holdOuts(t, c, nums(4), 4, 3, 2, 1, 10)
	wantShown(t, c, nums(4), 3, map[int]int64{0: 2, 1: 7})
}

// TestVariablesThatAreExchanged: in each round, and behind the last one.
func TestVariablesThatAreExchanged(t *testing.T) {
	c := main(
		goes(1, number(0, 1), number(1, 2), number(2, 3), number(20, 1), set(0, 0), set(1, 1), set(2, 2), inst(api.IRead, 3), set(3, 3)),
		branch(8, 1, 2, mark(2, 0, 1, 3), get(4, 0), get(5, 1), get(6, 2), set(0, 5), set(1, 6), set(2, 4), get(7, 3), inst(api.Sub, 8, 7, 20), set(3, 8)),
		ends(get(9, 0), get(10, 1), get(11, 2), show(9), show(10), show(11), mark(0, 1, 2)))
	holdOuts(t, c, nums(1), 2, 3, 1)
	holdOuts(t, c, nums(2), 3, 1, 2)
	holdOuts(t, c, nums(7), 2, 3, 1)
	wantShown(t, c, nums(3), 3, map[int]int64{0: 3, 1: 1, 2: 2, 3: 1})
}

// TestValuesStayWhatTheyWere: what was got ahead of a setting is that from then on, in the next round, too.
func TestValuesStayWhatTheyWere(t *testing.T) {
	c := main(
		goes(1, inst(api.IRead, 0), set(0, 0), number(1, 1)),
		branch(3, 2, 3, get(2, 0), inst(api.Sub, 3, 2, 1), set(0, 3)),
		goes(1, show(2), get(4, 0), show(4), set(0, 2), set(1, 4), get(5, 0), set(2, 5), set(0, 4), mark(0, 1, 2)),
		answers(2, get(6, 0), get(7, 1), get(8, 2), show(2), show(6), show(7), show(8)))
	holdOuts(t, c, nums(3), 3, 2, 2, 1, 1, 0, 1, 2)
	wantShown(t, c, nums(3), 1, map[int]int64{0: 2, 1: 2, 2: 3})
}

// TestLoopsInLoops: set in the inner one alone, in the outer one alone, or in both.
func TestLoopsInLoops(t *testing.T) {
	step := func(dst, variable int) []api.Inst {
		return []api.Inst{get(dst, variable), inst(api.Add, dst+1, dst, 1), set(variable, dst+1)}
	}
	c := main(
		goes(1, number(1, 1)),
		goes(2, append(step(2, 0), mark(0, 1, 2))...),
		branch(10, 2, 3, append(append(step(4, 1), step(6, 2)...), mark(2, 1, 0), inst(api.IRead, 10))...),
		branch(11, 1, 4, append(step(8, 2), inst(api.IRead, 11), mark(0, 1, 2))...),
		ends(get(12, 0), show(12), get(13, 1), show(13), get(14, 2), show(14)))
	holdOuts(t, c, nums(1, 1, 0, 1, 0, 0), 2, 4, 6)
	wantShown(t, c, nums(1, 1, 0, 1, 0, 0), 4, map[int]int64{0: 1, 1: 3, 2: 3})
	wantShown(t, c, nums(1, 1, 0, 1, 0, 0), 6, map[int]int64{0: 2, 1: 3, 2: 4})
}

// TestALoopWithTwoBeginnings: neither dominates the other.
func TestALoopWithTwoBeginnings(t *testing.T) {
	c := main(
		branch(0, 1, 2, inst(api.IRead, 0), number(1, 10), set(0, 1)),
		branch(2, 2, 3, get(3, 0), show(3), number(4, 20), set(0, 4), mark(0, 1), inst(api.IRead, 2)),
		branch(5, 1, 3, get(6, 0), show(6), get(7, 1), set(0, 7), set(1, 6), mark(1, 0), inst(api.IRead, 5)),
		ends(get(8, 0), get(9, 1), show(8), show(9)))
	holdOuts(t, c, nums(1, 0), 10, 20, 0)
	holdOuts(t, c, nums(0, 0), 10, 0, 10)
	holdOuts(t, c, nums(1, 1, 1, 1, 0), 10, 20, 0, 20, 20, 20)
	holdOuts(t, c, nums(0, 1, 1, 1, 1, 0), 10, 0, 20, 10, 20, 20, 20)
}

// TestPhisThatAreThereAlready: they stay, their Args may be what variables had, and they take theirs at once with the new ones.
func TestPhisThatAreThereAlready(t *testing.T) {
	c := main(
		goes(1, number(0, 1), number(1, 2), set(0, 1), get(2, 0), number(3, 1), get(20, 3)),
		behind(branch(12, 1, 2, mark(0, 1), show(4), show(5), get(6, 0), show(6), get(7, 1), show(7), set(0, 4), set(1, 5), get(8, 0), get(9, 1), inst(api.IRead, 12)),
			phi(4, 2, 9), phi(5, 20, 6), phi(10, 0, 8)),
		answers(10, show(10), show(8), show(9)))
	holdOuts(t, c, nums(1, 1, 0), 2, 0, 2, 0, 0, 2, 2, 0, 2, 2, 0, 2, 0, 2, 2)
	wantShown(t, c, nums(1, 1, 0), 3, map[int]int64{0: 0, 1: 2})
	d := mustBuild(t, c)
	if count(d, api.IPhi) != 5 {
		t.Errorf("the phis are %+v", d.Funs[0].Blocks[1].Phis)
	}
}

// TestPhisByTheBlocksNumbers: not by the order in which ways lead there.
func TestPhisByTheBlocksNumbers(t *testing.T) {
	c := main(
		branch(0, 3, 1, inst(api.IRead, 0)),
		goes(2, number(1, 10), set(0, 1)),
		behind(ends(get(9, 0), show(9), show(8)), phi(8, 1, 2)),
		goes(2, number(2, 30), set(0, 2)))
	holdOuts(t, c, nums(1), 30, 30)
	holdOuts(t, c, nums(0), 10, 10)
}

// TestEnds: what a block's end asks for, and what an instruction does, may be a variable's.
func TestEnds(t *testing.T) {
	c := main(
		branch(1, 1, 2, inst(api.IRead, 0), set(0, 0), get(1, 0), set(0, 1), get(2, 0), inst(api.ICopy, 3, 2)),
		answers(4, get(4, 0), show(3)),
		answers(5, get(5, 1), inst(api.Neg, 6, 2), show(6)))
	holdOuts(t, c, nums(6), 6)
	holdOuts(t, c, nums(0), 0)
	if r, _ := trace.Run(mustBuild(t, c), nums(6), 99); r.Exit != 6 {
		t.Error(r)
	}
}

// TestFunctionsWithParameters: which are variables, too; they call themselves, and answers are forgotten.
func TestFunctionsWithParameters(t *testing.T) {
	// f(n, x): if n is 0, nothing is answered; else f(n - 1, n), and what that answers and x and n.
	f := fun(2,
		branch(2, 1, 2, param(0, 0), param(1, 1), set(3, 0), set(5, 1), get(2, 3), mark(3, 5, 1)),
		answers(9, number(3, 1), get(4, 3), inst(api.Sub, 5, 4, 3), at(3, call(6, 1, 5, 4), isVariable(0, 3), isVariable(1, 1), isValue(2, 4, 2, 1)), set(1, 6),
			at(4, call(-1, 2), isVariable(0, 1)), mark(1, 3), get(7, 5), inst(api.Add, 8, 7, 6), inst(api.Add, 9, 8, 4)),
		ends(mark(0, 1)))
	g := fun(0, ends(mark(3), number(0, 7), set(3, 0), get(1, 3), show(1)))
	c := program(fun(0, ends(number(0, 3), set(1, 0), get(1, 1), call(2, 1, 1, 0), show(2), at(5, call(-1, 1, 1, 1), isVariable(4, 1)))), f, g)
	holdOuts(t, c, nil, 7, 7, 7, 14, 7, 7, 7)
	d := mustBuild(t, c)
	if d.Funs[1].Params != 2 || d.Funs[1].Blocks[2].End != api.RetNone {
		t.Errorf("%+v", d)
	}
}

// TestMostParametersAndVariables: as many as there may be.
func TestMostParametersAndVariables(t *testing.T) {
	f := api.Fun{Params: api.MaxParams, Vars: api.MaxLocals, Vals: 600, Blocks: []api.Block{ends()}}
	l := []api.Inst{inst(api.IMark, -1)}
	for v := range api.MaxLocals {
		p := v % api.MaxParams
		if v < api.MaxParams {
			l = append(l, param(p, p))
		}
		l = append(l, set(api.MaxLocals-1-v, p), mark(v), get(300+v, v), show(300+v))
	}
	f.Blocks[0].Insts = l
	main := fun(0, ends(number(0, 1), number(1, 2), number(2, 3), number(3, 4), number(4, 5), number(5, 6), call(-1, 1, 0, 1, 2, 3, 4, 5)))
	if end := hold(t, program(main, f), nil, 5000); end != api.Halt {
		t.Error(end)
	}
}

// TestOtherMains: any function without parameters may be it.
func TestOtherMains(t *testing.T) {
	c := program(fun(1, answers(1, param(0, 0), set(0, 0), get(1, 0))), fun(0, ends(get(0, 0), show(0))), fun(0, ends(number(0, 4), set(1, 0), get(1, 1), call(2, 0, 1), show(2), call(-1, 1))))
	c.Main = 2
	holdOuts(t, c, nil, 4, 0)
	c.Main = 1
	holdOuts(t, c, nil, 0)
}

// TestWhatIsNotLookedAt: of instructions, of what is known and of ends; where blocks go on stays even so.
func TestWhatIsNotLookedAt(t *testing.T) {
	junk := inst(api.Add, 1, 0, 0)
	junk.Imm, junk.Site, junk.Dbg = 77, -5, []api.Dbg{isVariable(900, 800), {Kind: 99}}
	known := []api.Dbg{{Var: 1, Kind: api.DNum, Arg: 12345, A: 7, B: 8}, {Var: 2, Kind: api.DVar, Arg: 0, A: 7, B: 8}, {Var: 3, Kind: api.DVar, Arg: 1, A: 7, B: 8}}
	last := answers(2, get(2, 0), set(0, 1), at(2, inst(api.IMark, -1), known...), show(1))
	last.To, last.Else = -3, 99
	last.Phis = []api.Inst{{Op: api.IPhi, Dst: 9, Args: []int{1}, Imm: 5, Site: 66, Dbg: known}}
	first := goes(1, number(0, 6), junk)
	first.Else, first.Arg = 1234, -77
	c := main(first, last)
	c.Funs[0].Blocks[0].Insts[1].Imm = -9
	holdOuts(t, c, nil, 12)
	wantShown(t, c, nil, 1, map[int]int64{1: 8, 2: 12, 3: 0})
}

// TestBuiltCodeIsBuiltAgain: as it is.
func TestBuiltCodeIsBuiltAgain(t *testing.T) {
	c := main(branch(0, 2, 1, inst(api.IRead, 0)), goes(3, number(1, 10), set(4, 1)), goes(3, mark(1, 4)), ends(get(5, 4), show(5), get(6, 0), show(6)))
	d := mustBuild(t, c)
	again, e := ssa.Build(d)
	if e != api.OK || !reflect.DeepEqual(again, d) {
		t.Errorf("%d, %+v, want\n%+v", e, again, d)
	}
}
