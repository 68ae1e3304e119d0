package ssa_test

import (
	"reflect"
	"testing"

	"teasel/api"
	"teasel/code"
	"teasel/samples"
	"teasel/ssa"
)

// wide is a function with so many variables, whose values have the highest numbers that there may be.
func wide(vars int, blocks []api.Block) api.Fun {
	const last = api.MaxVals - 1
	for i := range blocks {
		b := &blocks[i]
		if b.End == api.Branch {
			b.Arg = last - b.Arg
		}
		for k := range b.Insts {
			x := &b.Insts[k]
			if x.Dst != -1 {
				x.Dst = last - x.Dst
			}
			for a := range x.Args {
				x.Args[a] = last - x.Args[a]
			}
		}
	}
	return api.Fun{Vars: vars, Vals: api.MaxVals, Blocks: blocks}
}

// all is a mark at which all variables are known.
func all(vars int) api.Inst {
	l := make([]int, vars)
	for v := range l {
		l[v] = v
	}
	return mark(l...)
}

// setAll sets each of the variables to what is read.
func setAll(value, vars int) []api.Inst {
	l := []api.Inst{inst(api.IRead, value)}
	for v := range vars {
		l = append(l, set(v, value))
	}
	return l
}

// ladder is blocks from each of which ways lead to the next one and to the one ahead, entered at both ends; all variables are set in the middle and known in the last one, so that each block but the first, and the one at the end, needs a phi of each.
func ladder(n, vars int) api.Fun {
	blocks := make([]api.Block, n)
	blocks[0] = branch(0, 1, n-2, inst(api.IRead, 0))
	for i := 1; i < n-1; i++ {
		blocks[i] = branch(i, max(1, i-1), i+1, inst(api.IRead, i))
	}
	blocks[1].To = 2
	blocks[1].Else = n - 1
	blocks[n/2].Insts = append(blocks[n/2].Insts, setAll(n, vars)...)
	blocks[n-1] = ends(all(vars))
	return wide(vars, blocks)
}

// nest is loops in loops, in the innermost of which all variables are set: each head needs a phi of each.
func nest(loops, vars int) api.Fun {
	l := []api.Block{goes(1)}
	for i := range loops {
		l = append(l, goes(i+2))
	}
	l = append(l, goes(loops+2, append([]api.Inst{all(vars)}, setAll(9, vars)...)...))
	for i := range loops {
		l = append(l, branch(10+i, loops-i, loops+3+i, inst(api.IRead, 10+i)))
	}
	return wide(vars, append(l, ends(all(vars))))
}

// within tells whether code is so small that it is never refused.
func within(c api.Code) bool {
	all := 0
	for _, f := range c.Funs {
		all += len(f.Blocks) * f.Vars
		if len(f.Blocks) > 300 || f.Vars > 100 {
			return false
		}
	}
	return code.Size(c) <= 2000 && all <= 20000
}

func mustBeWithin(t *testing.T, c api.Code) {
	t.Helper()
	if !within(c) {
		t.Fatal("code that is too much", code.Size(c))
	}
}

// TestWithinTheBound: as many phis as there may be, in few functions or in many.
func TestWithinTheBound(t *testing.T) {
	for _, f := range []api.Fun{ladder(200, 100), ladder(300, 66), nest(98, 100), nest(148, 66), ladder(4, 100), nest(1, 1)} {
		c := program(f)
		mustBeWithin(t, c)
		if n := count(mustBuild(t, c), api.IPhi); n < len(f.Blocks)*f.Vars/3 {
			t.Error("only so many phis:", n)
		}
		for way := range uint64(4) {
			hold(t, c, samples.Bits(way, 50), 400)
		}
	}
	var some, many []api.Fun
	for range 10 {
		some = append(some, ladder(20, 90))
	}
	for i := range 1000 {
		many = append(many, api.Fun{Vars: 1 + i%20, Vals: 1, Blocks: []api.Block{ends(get(0, 0), mark(0))}})
	}
	for range 9000 {
		many = append(many, api.Fun{Vars: 1, Blocks: []api.Block{ends()}})
	}
	for _, l := range [][]api.Fun{some, many} {
		mustBeWithin(t, program(l...))
		hold(t, program(l...), nums(0, 0, 0, 0), 99)
	}
}

// TestWithinTheBoundByChance: code with up to as many blocks as there may be.
func TestWithinTheBoundByChance(t *testing.T) {
	all := 0
	for seed := range uint64(60) {
		if c := samples.Ways(seed, 300, 60); within(c) {
			all++
			hold(t, c, samples.Bits(seed, 300), 3000)
		}
	}
	if all < 10 {
		t.Error("only so many:", all)
	}
}

// padded is code with so many more instructions.
func padded(c api.Code, n int) api.Code {
	c = code.Copy(c)
	b := &c.Funs[0].Blocks[0]
	for range n {
		b.Insts = append(b.Insts, mark())
	}
	return c
}

// TestErrLimit: with just as many instructions and phis as there may be it is OK, with one more it isn't, in one function or in several.
func TestErrLimit(t *testing.T) {
	for _, c := range []api.Code{program(ladder(110, 255)), program(nest(120, 255)), program(nest(50, 255), ladder(30, 255), ladder(70, 200))} {
		size := code.Size(mustBuild(t, c))
		if size < 20000 {
			t.Fatal("few phis", size)
		}
		most := padded(c, api.MaxCode-size)
		if n := code.Size(mustBuild(t, most)); n != api.MaxCode {
			t.Error("not as many as there may be", n)
		}
		hold(t, most, samples.Bits(5, 40), 50000)
		for _, more := range []int{1, 2, 1000} {
			wantError(t, padded(c, api.MaxCode-size+more), api.ErrLimit)
		}
	}
	wantError(t, program(ladder(200, 255)), api.ErrLimit)
	wantError(t, program(nest(29000, 255)), api.ErrLimit)
	wantError(t, program(ladder(api.MaxVals, 255)), api.ErrLimit)
	wantError(t, program(fun(0, ends()), ladder(100, 255), nest(100, 255)), api.ErrLimit)
	wantError(t, program(ladder(100, 255), fun(0, ends(make([]api.Inst, 0)...)), nest(100, 255)), api.ErrLimit)
}

// TestMuchCode: with as many blocks, variables, instructions and values as there may be.
func TestMuchCode(t *testing.T) {
	if n := count(mustBuild(t, program(nest(19000, 1))), api.IPhi); n != 19000 {
		t.Error("other phis", n)
	}
	mustBuild(t, program(ladder(19900, 1)))
	row := make([]api.Block, api.MaxVals)
	for i := range row {
		row[i] = goes(i + 1)
	}
	row[0].Insts = append(setAll(0, 255), all(255))
	row[api.MaxVals-1] = ends(get(1, 254), show(1), all(255))
	hold(t, program(api.Fun{Vars: 255, Vals: 2, Blocks: row}), nums(7), 70000)
	var many []api.Inst
	for i := range api.MaxCode / 4 {
		many = append(many, get(2*i, i%255), number(2*i+1, int64(i)), set((i*7)%255, 2*i+1), all(3))
	}
	hold(t, program(api.Fun{Vars: 255, Vals: api.MaxVals, Blocks: []api.Block{ends(many...)}}), nil, api.MaxCode+5)
}

func wantError(t *testing.T, c api.Code, want api.Errno) {
	t.Helper()
	if d, e := ssa.Build(c); e != want || !reflect.DeepEqual(d, api.Code{}) {
		t.Errorf("Build answers %d, want %d, of %s", e, want, told(c))
	}
}

// TestWrongCode: code.Check's error, whatever else.
func TestWrongCode(t *testing.T) {
	right := func() []api.Block { return []api.Block{goes(1, get(0, 0)), ends(show(0), set(1, 0), mark(1))} }
	mustBuild(t, main(right()...))
	for name, spoil := range map[string]func(c *api.Code){
		"no functions":                   func(c *api.Code) { c.Funs = nil },
		"no such Main":                   func(c *api.Code) { c.Main = 1 },
		"a Main with parameters":         func(c *api.Code) { c.Funs[0].Params = 1 },
		"no stops":                       func(c *api.Code) { c.Stops = nil },
		"a stop without frames":          func(c *api.Code) { c.Stops[3] = nil },
		"too many variables":             func(c *api.Code) { c.Funs[0].Vars = api.MaxLocals + 1 },
		"a variable that there isn't":    func(c *api.Code) { c.Funs[0].Blocks[0].Insts[0].Imm = 6 },
		"a variable below 0":             func(c *api.Code) { c.Funs[0].Blocks[1].Insts[1].Imm = -1 },
		"one that is known":              func(c *api.Code) { c.Funs[0].Blocks[1].Insts[2].Dbg[0].Arg = 6 },
		"ways back to the first block":   func(c *api.Code) { c.Funs[0].Blocks[1] = goes(0, show(0)) },
		"a first block in a loop":        func(c *api.Code) { c.Funs[0].Blocks[0].To = 0 },
		"a block that isn't reached":     func(c *api.Code) { c.Funs[0].Blocks = append(c.Funs[0].Blocks, ends()) },
		"a branch with one way":          func(c *api.Code) { c.Funs[0].Blocks[0] = branch(0, 1, 1, get(0, 0)) },
		"no such end":                    func(c *api.Code) { c.Funs[0].Blocks[1].End = 0 },
		"a phi in the first block":       func(c *api.Code) { c.Funs[0].Blocks[0].Phis = []api.Inst{phi(4)} },
		"a phi without its Arg":          func(c *api.Code) { c.Funs[0].Blocks[1].Phis = []api.Inst{phi(4)} },
		"a value that is made twice":     func(c *api.Code) { c.Funs[0].Blocks[1].Insts[0] = get(0, 1) },
		"a value that is made behind it": func(c *api.Code) { c.Funs[0].Blocks[1].Insts = append(c.Funs[0].Blocks[1].Insts, show(3), get(3, 0)) },
		"a setting that makes a value":   func(c *api.Code) { c.Funs[0].Blocks[1].Insts[1].Dst = 3 },
		"a getting that makes none":      func(c *api.Code) { c.Funs[0].Blocks[0].Insts[0].Dst = -1 },
	} {
		c := main(right()...)
		spoil(&c)
		if code.Check(c) != api.ErrForm {
			t.Error("it isn't wrong:", name)
		}
		wantError(t, c, api.ErrForm)
	}
	wantError(t, api.Code{}, api.ErrForm)
	wantError(t, padded(main(right()...), api.MaxCode), api.ErrLimit)
	wantError(t, padded(main(goes(0)), api.MaxCode+1), api.ErrLimit)
}

func TestWrongCodeByChance(t *testing.T) {
	had := map[api.Errno]int{}
	for seed := range uint64(4000) {
		c := samples.Code(seed, int(seed%5), 1+int(seed%3))
		e := code.Check(c)
		had[e]++
		if e != api.OK {
			wantError(t, c, e)
		} else {
			hold(t, c, nums(1, 0, 3), 100)
		}
	}
	if had[api.OK] < 100 || had[api.ErrForm] < 1000 {
		t.Error(had)
	}
}
