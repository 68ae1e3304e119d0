package code_test

import (
	"fmt"
	"testing"

	"teasel/api"
	"teasel/code"
)

// sample answers right code in which each Op stands: main, of six blocks with a loop, and a function of two parameters.
//
//	0 -> 1 (head: phis) -> 2, 5; 2 -> 3, 4; 3 -> 4; 4 (a phi) -> 1; 5 answers
func sample() api.Code {
	known := []api.Dbg{{Var: 3, Kind: api.DNum, Arg: -9, A: 5, B: 6}, {Depth: 1, Var: 3, Kind: api.DVal, Arg: 1, A: 2, B: 3}, {Depth: 0, Var: 200, Kind: api.DVar, Arg: 1}}
	main := api.Fun{Vars: 2, Vals: 40, Blocks: []api.Block{
		{Insts: []api.Inst{
			inst(api.IConst, 0, -1<<63), inst(api.IRead, 1, 0), {Op: api.IMark, Dst: -1, Site: 1, Dbg: known},
			inst(api.IAlloc, 2, 256), inst(api.ITop, 3, 0), inst(api.ISet, -1, 1, 0), inst(api.IAlloc, 33, 1),
		}, End: api.GoTo, To: 1, Else: 77, Arg: -8},
		{Phis: []api.Inst{inst(api.IPhi, 4, 0, 0, 8), inst(api.IPhi, 5, 0, 3, 5)}, Insts: []api.Inst{
			inst(api.Lt, 6, 0, 4, 1),
		}, End: api.Branch, Arg: 6, To: 2, Else: 5},
		{Insts: []api.Inst{
			inst(api.Div, 7, 0, 4, 1), inst(api.ILoad, 9, 0, 2, 7), inst(api.IStore, -1, 0, 2, 7, 5), inst(api.ILen, 10, 0, 2), inst(api.IFree, -1, 0, 3),
			{Op: api.ICall, Dst: 11, Imm: 1, Args: []int{10, 4}, Site: 1, Dbg: known}, {Op: api.ICall, Dst: -1, Imm: 0, Site: 0},
		}, End: api.Branch, Arg: 11, To: 3, Else: 4},
		{Insts: []api.Inst{inst(api.Neg, 12, 0, 11), inst(api.Not, 13, 0, 12), inst(api.Bang, 14, 0, 13), inst(api.IPrint, -1, 0, 14)}, End: api.GoTo, To: 4},
		{Phis: []api.Inst{inst(api.IPhi, 8, 0, 11, 14)}, Insts: []api.Inst{inst(api.IGet, 15, 1), inst(api.ICopy, 16, 0, 15), inst(api.Rem, 17, 0, 16, 8)}, End: api.GoTo, To: 1},
		{End: api.RetVal, Arg: 5, To: -1, Else: -1},
	}}
	other := api.Fun{Params: 2, Vals: 3, Blocks: []api.Block{{Insts: []api.Inst{inst(api.IParam, 0, 0), inst(api.IParam, 1, 1), inst(api.Add, 2, 0, 0, 1)}, End: api.RetNone, Arg: -4}}}
	return api.Code{Funs: []api.Fun{main, other}, Stops: [][]api.Spot{{{Fn: 0, Stmt: 1}}, {{Fn: 9, Stmt: -3}, {Fn: -1, Stmt: 0}}}}
}

func TestSampleIsRight(t *testing.T) {
	if code.Check(sample()) != api.OK || code.Plain(sample()) {
		t.Fatal(code.Check(sample()))
	}
}

// change is one thing of the sample that is made another.
type change struct {
	name string
	do   func(c *api.Code)
}

func at(c *api.Code, block, i int) *api.Inst {
	return &c.Funs[0].Blocks[block].Insts[i]
}

func phi(c *api.Code, block, i int) *api.Inst {
	return &c.Funs[0].Blocks[block].Phis[i]
}

func wantEach(t *testing.T, want api.Errno, l []change) {
	t.Helper()
	for _, x := range l {
		c := sample()
		x.do(&c)
		if e := code.Check(c); e != want {
			t.Errorf("%s: %d, want %d", x.name, e, want)
		}
		if want != api.OK && code.Plain(c) {
			t.Errorf("%s: plain", x.name)
		}
	}
}

func TestTheWhole(t *testing.T) {
	wantEach(t, api.ErrForm, []change{
		{"no functions", func(c *api.Code) { c.Funs = nil }},
		{"Main below 0", func(c *api.Code) { c.Main = -1 }},
		{"Main behind the last", func(c *api.Code) { c.Main = 2 }},
		{"Main with parameters", func(c *api.Code) { c.Main = 1 }},
		{"a stop without frames", func(c *api.Code) { c.Stops = append(c.Stops, nil) }},
		{"a stop ahead without frames", func(c *api.Code) { c.Stops[0] = []api.Spot{} }},
		{"no stops", func(c *api.Code) { c.Stops = nil }},
		{"a second function that is wrong", func(c *api.Code) { c.Funs[1].Blocks = nil }},
	})
	wantEach(t, api.OK, []change{
		{"another Main", func(c *api.Code) { c.Funs = append(c.Funs, c.Funs[0]); c.Main = 2 }},
		{"more stops", func(c *api.Code) { c.Stops = append(c.Stops, make([]api.Spot, 9)) }},
	})
}

func TestSizesOfFunctions(t *testing.T) {
	last := func(c *api.Code) *api.Fun {
		c.Funs = append(c.Funs, api.Fun{Blocks: []api.Block{{End: api.RetNone}}})
		return &c.Funs[2]
	}
	row := func(n int) []api.Block {
		l := make([]api.Block, n)
		for i := range l {
			l[i] = api.Block{End: api.GoTo, To: i + 1}
		}
		l[n-1].End = api.RetNone
		return l
	}
	wantEach(t, api.OK, []change{
		{"nothing but an end", func(c *api.Code) { last(c) }},
		{"as many parameters as may be", func(c *api.Code) { last(c).Params = api.MaxParams }},
		{"as many variables as may be", func(c *api.Code) { last(c).Vars = api.MaxLocals }},
		{"as many values as may be", func(c *api.Code) { last(c).Vals = api.MaxVals }},
		{"as many blocks as may be", func(c *api.Code) { last(c).Blocks = row(api.MaxVals) }},
		{"the last value", func(c *api.Code) { f := last(c); f.Vals = 7; f.Blocks[0].Insts = []api.Inst{inst(api.ITop, 6, 0)} }},
		{"the last parameter", func(c *api.Code) {
			f := last(c)
			f.Params, f.Vals = 6, 1
			f.Blocks[0].Insts = []api.Inst{inst(api.IParam, 0, 5)}
		}},
	})
	wantEach(t, api.ErrForm, []change{
		{"parameters below 0", func(c *api.Code) { last(c).Params = -1 }},
		{"too many parameters", func(c *api.Code) { last(c).Params = api.MaxParams + 1 }},
		{"variables below 0", func(c *api.Code) { last(c).Vars = -1 }},
		{"too many variables", func(c *api.Code) { last(c).Vars = api.MaxLocals + 1 }},
		{"values below 0", func(c *api.Code) { last(c).Vals = -1 }},
		{"too many values", func(c *api.Code) { last(c).Vals = api.MaxVals + 1 }},
		{"no blocks", func(c *api.Code) { last(c).Blocks = nil }},
		{"too many blocks", func(c *api.Code) { last(c).Blocks = row(api.MaxVals + 1) }},
		{"a value behind the last", func(c *api.Code) { f := last(c); f.Vals = 7; f.Blocks[0].Insts = []api.Inst{inst(api.ITop, 7, 0)} }},
		{"a value where there are none", func(c *api.Code) { last(c).Blocks[0].Insts = []api.Inst{inst(api.ITop, 0, 0)} }},
	})
}

func TestBlocks(t *testing.T) {
	block := func(c *api.Code, i int) *api.Block { return &c.Funs[0].Blocks[i] }
	wantEach(t, api.ErrForm, []change{
		{"no end", func(c *api.Code) { block(c, 5).End = 0 }},
		{"an end that is none", func(c *api.Code) { block(c, 5).End = 5 }},
		{"back to the first", func(c *api.Code) { *block(c, 3) = api.Block{End: api.GoTo, To: 0}; block(c, 4).Phis = nil }},
		{"a Branch to the first", func(c *api.Code) { block(c, 2).To = 0 }},
		{"a Branch else to the first", func(c *api.Code) { *block(c, 5) = api.Block{End: api.Branch, To: 5, Else: 0} }},
		{"to one that there is not", func(c *api.Code) { block(c, 4).To = 6 }},
		{"to one below 0", func(c *api.Code) { block(c, 4).To = -1 }},
		{"a Branch to one that there is not", func(c *api.Code) { block(c, 1).To = 6 }},
		{"a Branch else to one that there is not", func(c *api.Code) { block(c, 1).Else = 6 }},
		{"a Branch to one below 0", func(c *api.Code) { block(c, 1).To = -1 }},
		{"a Branch else to one below 0", func(c *api.Code) { block(c, 1).Else = -1 }},
		{"a Branch to the same twice", func(c *api.Code) { *block(c, 5) = api.Block{End: api.Branch, Arg: 0, To: 5, Else: 5} }},
		{"one that isn't reached", func(c *api.Code) { c.Funs[0].Blocks = append(c.Funs[0].Blocks, api.Block{End: api.RetNone}) }},
		{"some that lead to each other alone", func(c *api.Code) {
			c.Funs[0].Blocks = append(c.Funs[0].Blocks, api.Block{End: api.GoTo, To: 7}, api.Block{End: api.GoTo, To: 6})
		}},
		{"phis of the first", func(c *api.Code) { block(c, 0).Phis = []api.Inst{inst(api.IPhi, 30, 0)} }},
		{"a Branch by no value", func(c *api.Code) { block(c, 1).Arg = -1 }},
		{"a Branch by a value behind the last", func(c *api.Code) { block(c, 1).Arg = 40 }},
		{"a Branch by a value that isn't made", func(c *api.Code) { block(c, 1).Arg = 39 }},
		{"a Branch by a value that is made behind", func(c *api.Code) { block(c, 1).Arg = 7 }},
		{"an answer that is no value", func(c *api.Code) { block(c, 5).Arg = 41 }},
		{"an answer that is made on one way", func(c *api.Code) { block(c, 5).Arg = 11 }},
	})
	wantEach(t, api.OK, []change{
		{"to itself", func(c *api.Code) { *block(c, 5) = api.Block{End: api.GoTo, To: 5} }},
		{"a Branch to itself", func(c *api.Code) { *block(c, 5) = api.Block{End: api.Branch, Arg: 6, To: 5, Else: 1}; noPhis(c) }},
		{"an answer of nothing", func(c *api.Code) { *block(c, 5) = api.Block{End: api.RetNone, Arg: -1} }},
		{"an answer of what the block makes", func(c *api.Code) { block(c, 5).Insts = []api.Inst{inst(api.ITop, 39, 0)}; block(c, 5).Arg = 39 }},
		{"a Branch by a phi of its own", func(c *api.Code) { block(c, 1).Arg = 5 }},
	})
}

// noPhis makes numbers of the phis of the loop's head.
func noPhis(c *api.Code) {
	b := &c.Funs[0].Blocks[1]
	b.Phis, b.Insts = nil, append([]api.Inst{inst(api.IConst, 4, 0), inst(api.IConst, 5, 0)}, b.Insts...)
}

func TestPhis(t *testing.T) {
	wantEach(t, api.ErrForm, []change{
		{"too few Args", func(c *api.Code) { phi(c, 1, 0).Args = []int{0} }},
		{"no Args", func(c *api.Code) { phi(c, 1, 0).Args = nil }},
		{"too many Args", func(c *api.Code) { phi(c, 1, 0).Args = []int{0, 8, 8} }},
		{"no value", func(c *api.Code) { phi(c, 1, 1).Dst = -1 }},
		{"a value behind the last", func(c *api.Code) { phi(c, 1, 1).Dst = 40 }},
		{"a value made by another phi", func(c *api.Code) { phi(c, 1, 1).Dst = 4 }},
		{"a value made ahead", func(c *api.Code) { phi(c, 4, 0).Dst = 0 }},
		{"another Op", func(c *api.Code) { phi(c, 1, 1).Op = api.Add }},
		{"a phi among the instructions", func(c *api.Code) { *at(c, 4, 0) = inst(api.IPhi, 15, 0, 11, 14) }},
		{"the Args the other way round", func(c *api.Code) { phi(c, 1, 0).Args = []int{8, 0} }},
		{"an Arg that is made on another way", func(c *api.Code) { phi(c, 4, 0).Args = []int{14, 11} }},
		{"an Arg that isn't made", func(c *api.Code) { phi(c, 1, 0).Args[0] = 39 }},
		{"an Arg below 0", func(c *api.Code) { phi(c, 1, 0).Args[1] = -1 }},
		{"an Arg behind the last", func(c *api.Code) { phi(c, 1, 0).Args[1] = 40 }},
	})
	wantEach(t, api.OK, []change{
		{"itself, from behind", func(c *api.Code) { phi(c, 1, 0).Args[1] = 4 }},
		{"another phi of its block", func(c *api.Code) { phi(c, 1, 0).Args[1] = 5 }},
		{"what is made at the end of the block from which it comes", func(c *api.Code) { phi(c, 1, 0).Args[1] = 17 }},
		{"what was made far ahead", func(c *api.Code) { phi(c, 4, 0).Args = []int{0, 0} }},
		{"fields that aren't named", func(c *api.Code) {
			p := phi(c, 1, 0)
			p.Imm, p.Site, p.Dbg = -5, -6, make([]api.Dbg, 3)
		}},
	})
}

// TestShapes: of each instruction of the sample an Arg less, and one more; and with the value, or none, that it mustn't have.
func TestShapes(t *testing.T) {
	whole := sample()
	seen := map[byte]bool{}
	for f := range whole.Funs {
		for b := range whole.Funs[f].Blocks {
			for i, x := range whole.Funs[f].Blocks[b].Insts {
				name := fmt.Sprintf("function %d, block %d, instruction %d, Op %d: ", f, b, i, x.Op)
				it := func(c *api.Code) *api.Inst { return &c.Funs[f].Blocks[b].Insts[i] }
				seen[x.Op] = true
				l := []change{{name + "an Arg more", func(c *api.Code) { it(c).Args = append(it(c).Args, c.Funs[f].Blocks[0].Insts[0].Dst) }}}
				if i == 0 && b == 0 {
					l[0].do = func(c *api.Code) { it(c).Args = []int{0} }
				}
				if len(x.Args) > 0 {
					l = append(l, change{name + "an Arg less", func(c *api.Code) { it(c).Args = it(c).Args[1:] }})
				}
				if x.Dst == -1 && x.Op != api.ICall {
					l = append(l, change{name + "a value that it doesn't make", func(c *api.Code) { it(c).Dst = c.Funs[f].Vals - 1; c.Funs[f].Vals++ }})
				}
				if x.Dst != -1 {
					l = append(l, change{name + "no value, as nobody needs it", func(c *api.Code) {
						alone := *it(c)
						alone.Dst = -1
						c.Funs[f].Blocks[b].Insts = append(c.Funs[f].Blocks[b].Insts, alone)
					}})
				}
				if x.Op == api.ICall && x.Dst != -1 {
					wantEach(t, api.OK, l[len(l)-1:])
					l = l[:len(l)-1]
				}
				l = append(l, change{name + "a value below -1", func(c *api.Code) { it(c).Dst = -2 }})
				wantEach(t, api.ErrForm, l)
			}
		}
	}
	for op := range ops() {
		if op != api.IPhi && !seen[op] && (op < api.Add || op > api.Ne) {
			t.Error("no instruction of the sample has the Op", op)
		}
	}
}

// TestOpsOfNoShape: numbers that are no Op.
func TestOpsOfNoShape(t *testing.T) {
	for op := range 256 {
		_, is := ops()[byte(op)]
		for args := range 4 {
			for _, dst := range []int{-1, 39} {
				if !is {
					wantEach(t, api.ErrForm, []change{{fmt.Sprint("the Op ", op), func(c *api.Code) { *at(c, 3, 3) = inst(byte(op), dst, 0, make([]int, args)...) }}})
				}
			}
		}
	}
	for op := range byte(17) {
		if op >= api.Add {
			wantEach(t, api.OK, []change{{fmt.Sprint("the Op ", op), func(c *api.Code) { *at(c, 3, 3) = inst(op, 39, 5, 0, 1) }}})
		}
	}
}

func TestImms(t *testing.T) {
	param := func(c *api.Code) *api.Inst { return &c.Funs[1].Blocks[0].Insts[1] }
	wantEach(t, api.ErrForm, []change{
		{"a parameter that there is not", func(c *api.Code) { param(c).Imm = 2 }},
		{"a parameter below 0", func(c *api.Code) { param(c).Imm = -1 }},
		{"a parameter in Main", func(c *api.Code) { *at(c, 0, 0) = inst(api.IParam, 0, 0) }},
		{"a parameter behind the first block", func(c *api.Code) {
			f := &c.Funs[1]
			f.Blocks = append(f.Blocks, api.Block{Insts: f.Blocks[0].Insts[1:2], End: api.RetNone})
			f.Blocks[0] = api.Block{Insts: f.Blocks[0].Insts[:1], End: api.GoTo, To: 1}
		}},
		{"an array of nothing", func(c *api.Code) { at(c, 0, 6).Imm = 0 }},
		{"an array of less than nothing", func(c *api.Code) { at(c, 0, 6).Imm = -1 }},
		{"too great an array", func(c *api.Code) { at(c, 0, 3).Imm = 257 }},
		{"a function that there is not", func(c *api.Code) { at(c, 2, 5).Imm = 2 }},
		{"a function below 0", func(c *api.Code) { at(c, 2, 5).Imm = -1 }},
		{"a function far off", func(c *api.Code) { at(c, 2, 5).Imm = 1 << 32 }},
		{"a function of another number of parameters", func(c *api.Code) { at(c, 2, 5).Imm = 0 }},
		{"a variable asked that there is not", func(c *api.Code) { at(c, 4, 0).Imm = 2 }},
		{"a variable asked below 0", func(c *api.Code) { at(c, 4, 0).Imm = -1 }},
		{"a variable set that there is not", func(c *api.Code) { at(c, 0, 5).Imm = 2 }},
		{"a variable set below 0", func(c *api.Code) { at(c, 0, 5).Imm = -1 << 63 }},
	})
	wantEach(t, api.OK, []change{
		{"one parameter twice", func(c *api.Code) { param(c).Imm = 0 }},
		{"a parameter behind others", func(c *api.Code) {
			c.Funs[1].Blocks[0].Insts = append(c.Funs[1].Blocks[0].Insts, inst(api.ICopy, 3, 0, 2))
			c.Funs[1].Vals = 4
		}},
		{"any number", func(c *api.Code) { at(c, 0, 0).Imm = 1<<63 - 1 }},
		{"what isn't named", func(c *api.Code) {
			for _, i := range []int{1, 2, 4} {
				at(c, 0, i).Imm = -77
			}
			at(c, 2, 0).Imm, at(c, 2, 1).Imm, at(c, 2, 2).Imm, at(c, 2, 4).Imm, at(c, 3, 3).Imm = -1, 1<<63-1, 9, 1, 1
		}},
	})
}

func TestSites(t *testing.T) {
	for op, x := range map[byte][2]int{api.IMark: {0, 2}, api.ICall: {2, 6}, api.ILoad: {2, 1}, api.IStore: {2, 2}, api.IRead: {0, 1}, api.Div: {2, 0}, api.Rem: {4, 2}} {
		for site, want := range map[int]api.Errno{-1: api.ErrForm, 0: api.OK, 1: api.OK, 2: api.ErrForm, 1 << 40: api.ErrForm, -1 << 40: api.ErrForm} {
			wantEach(t, want, []change{{fmt.Sprintf("Op %d at the stop %d", op, site), func(c *api.Code) {
				it := at(c, x[0], x[1])
				if it.Op != op {
					t.Fatal("another instruction")
				}
				it.Site, it.Dbg = site, nil
			}}})
		}
	}
	wantEach(t, api.OK, []change{{"sites of others", func(c *api.Code) {
		at(c, 0, 0).Site, at(c, 0, 3).Site, at(c, 0, 4).Site, at(c, 0, 5).Site, at(c, 1, 0).Site, at(c, 2, 3).Site, at(c, 2, 4).Site, at(c, 3, 3).Site = -1, 2, 99, -1, -1, -1, -1, -1
	}}})
}

func TestWhatIsKnown(t *testing.T) {
	for _, x := range [][2]int{{0, 2}, {2, 5}} {
		known := func(c *api.Code, i int) *api.Dbg { return &at(c, x[0], x[1]).Dbg[i] }
		wantEach(t, api.ErrForm, []change{
			{"a frame that there is not", func(c *api.Code) { known(c, 1).Depth = 2 }},
			{"a frame below 0", func(c *api.Code) { known(c, 1).Depth = -1 }},
			{"a frame that another stop has", func(c *api.Code) { at(c, x[0], x[1]).Site = 0 }},
			{"no kind", func(c *api.Code) { known(c, 0).Kind = 0 }},
			{"a kind that is none", func(c *api.Code) { known(c, 0).Kind = 4 }},
			{"a kind far off", func(c *api.Code) { known(c, 0).Kind = 255 }},
			{"a value below 0", func(c *api.Code) { known(c, 1).Arg = -1 }},
			{"a value behind the last", func(c *api.Code) { known(c, 1).Arg = 40 }},
			{"a value that isn't made", func(c *api.Code) { known(c, 1).Arg = 39 }},
			{"a value that is made behind", func(c *api.Code) { known(c, 1).Arg = 17 }},
			{"a value that is made in the block, but behind", func(c *api.Code) {
				insts := c.Funs[0].Blocks[x[0]].Insts
				c.Funs[0].Blocks[x[0]].Insts = append(insts, inst(api.ITop, 39, 0))
				known(c, 1).Arg = 39
			}},
			{"a variable that there is not", func(c *api.Code) { known(c, 2).Arg = 2 }},
			{"a variable below 0", func(c *api.Code) { known(c, 2).Arg = -1 }},
			{"one variable of one frame twice", func(c *api.Code) { known(c, 2).Var = 3 }},
			{"one variable of one frame twice, the same", func(c *api.Code) { at(c, x[0], x[1]).Dbg = append(at(c, x[0], x[1]).Dbg, *known(c, 0)) }},
		})
		wantEach(t, api.OK, []change{
			{"nothing", func(c *api.Code) { at(c, x[0], x[1]).Dbg = nil }},
			{"in any order", func(c *api.Code) { l := at(c, x[0], x[1]).Dbg; l[0], l[1], l[2] = l[2], l[0], l[1] }},
			{"any Var", func(c *api.Code) { known(c, 0).Var, known(c, 1).Var = -5, 1<<40 }},
			{"one value twice", func(c *api.Code) { *known(c, 0) = api.Dbg{Var: 3, Kind: api.DVal, Arg: 1} }},
			{"one variable twice", func(c *api.Code) { *known(c, 0) = api.Dbg{Var: 3, Kind: api.DVar, Arg: 1} }},
		})
	}
	wantEach(t, api.ErrForm, []change{{"what a call answers, known at the call", func(c *api.Code) { at(c, 2, 5).Dbg[1].Arg = 11 }}})
	wantEach(t, api.OK, []change{{"what nobody looks at", func(c *api.Code) {
		at(c, 0, 0).Dbg = []api.Dbg{{Kind: 9}, {Kind: 9}, {Depth: 7, Kind: api.DVal, Arg: -1}}
		at(c, 2, 0).Dbg = []api.Dbg{{Kind: api.DVal, Arg: 39}, {Kind: api.DVar, Arg: 39}}
	}}})
}

func TestValues(t *testing.T) {
	wantEach(t, api.ErrForm, []change{
		{"made twice in a block", func(c *api.Code) { at(c, 0, 1).Dst = 0 }},
		{"made twice, far apart", func(c *api.Code) { at(c, 4, 2).Dst = 0 }},
		{"made on two ways", func(c *api.Code) { at(c, 3, 1).Dst, at(c, 3, 2).Args[0] = 12, 12 }},
		{"made twice by calls", func(c *api.Code) { at(c, 2, 6).Dst = 11 }},
		{"made twice, used never", func(c *api.Code) {
			at(c, 4, 0).Dst, at(c, 4, 1).Dst, at(c, 4, 1).Args[0], at(c, 4, 2).Args[0] = 17, 18, 17, 18
		}},
		{"used where it is made", func(c *api.Code) { at(c, 3, 0).Args[0] = 12 }},
		{"used ahead in the block", func(c *api.Code) { at(c, 3, 0).Args[0] = 13 }},
		{"used on a way without it", func(c *api.Code) { at(c, 4, 2).Args[1] = 14 }},
		{"used ahead, round the loop", func(c *api.Code) { at(c, 1, 0).Args[0] = 8 }},
		{"never made", func(c *api.Code) { at(c, 3, 0).Args[0] = 39 }},
		{"an Arg below 0", func(c *api.Code) { at(c, 3, 0).Args[0] = -1 }},
		{"an Arg behind the last", func(c *api.Code) { at(c, 3, 0).Args[0] = 40 }},
		{"another function's value", func(c *api.Code) { c.Funs[1].Blocks[0].Insts[2].Args[1] = 11 }},
	})
	wantEach(t, api.OK, []change{
		{"used twice", func(c *api.Code) { at(c, 2, 0).Args = []int{4, 4} }},
		{"used never", func(c *api.Code) { at(c, 4, 2).Dst = 39 }},
		{"phis ahead of all", func(c *api.Code) { at(c, 1, 0).Args = []int{5, 4} }},
	})
}

// TestTooMuchCode: more than MaxCode instructions and phis are too many, whatever else; so many aren't.
func TestTooMuchCode(t *testing.T) {
	const half = api.MaxCode / 2
	f := api.Fun{Vals: half, Blocks: []api.Block{{Insts: make([]api.Inst, half), End: api.RetNone}}}
	for i := range half {
		f.Blocks[0].Insts[i] = inst(api.ITop, i, 0)
	}
	c := api.Code{Funs: []api.Fun{f, f}}
	if e := code.Check(c); e != api.OK || code.Size(c) != api.MaxCode || !code.Plain(c) {
		t.Error("as much as may be", e)
	}
	c.Main = 7
	if e := code.Check(c); e != api.ErrForm {
		t.Error("as much as may be, and wrong", e)
	}
	one := api.Fun{Blocks: []api.Block{{Phis: make([]api.Inst, 1)}}}
	for name, d := range map[string]api.Code{
		"a phi more, in a function that is wrong": {Funs: []api.Fun{f, f, one}},
		"the same, and no Main":                   {Funs: []api.Fun{one, f, f}, Main: -3},
		"a stop without frames":                   {Funs: []api.Fun{f, one, f}, Stops: make([][]api.Spot, 1)},
		"an instruction more":                     {Funs: []api.Fun{f, f, seven().Funs[0]}},
	} {
		if e := code.Check(d); e != api.ErrLimit || code.Plain(d) {
			t.Errorf("%s: %d", name, e)
		}
	}
}

// TestGreatFunctions: as many blocks as may be, in a row, and values that are used far below where they are made.
func TestGreatFunctions(t *testing.T) {
	const blocks = api.MaxVals
	f := api.Fun{Vals: blocks, Blocks: make([]api.Block, blocks)}
	for i := range f.Blocks {
		f.Blocks[i] = api.Block{End: api.GoTo, To: i + 1}
		if i < 30000 {
			f.Blocks[i].Insts = []api.Inst{inst(api.ITop, i, 0)}
		}
		if i > blocks-10000 {
			f.Blocks[i].Insts = []api.Inst{inst(api.IStore, -1, 0, 0, 1, i%30000)}
		}
	}
	f.Blocks[blocks-1].End = api.RetNone
	c := api.Code{Funs: []api.Fun{f}, Stops: [][]api.Spot{{{}}}}
	if e := code.Check(c); e != api.OK {
		t.Error(e)
	}
	f.Blocks[blocks-1].Insts[0].Args[2] = 30000
	if e := code.Check(c); e != api.ErrForm {
		t.Error(e)
	}
}
