package ssa_test

import (
	"fmt"
	"reflect"
	"testing"

	"teasel/api"
	"teasel/code"
	"teasel/ssa"
	"teasel/trace"
)

// told is a thing as text, not too long.
func told(x any) string {
	s := fmt.Sprintf("%+v", x)
	return s[:min(len(s), 5000)]
}

func nums(l ...int64) []int64 {
	return l
}

// mustBuild answers plain code that has the form of what it was built of.
func mustBuild(t *testing.T, c api.Code) api.Code {
	t.Helper()
	if e := code.Check(c); e != api.OK {
		t.Fatalf("the code isn't right: %d, %s", e, told(c))
	}
	d, e := ssa.Build(c)
	if e != api.OK {
		t.Fatalf("Build answers %d of %s", e, told(c))
	}
	if e := code.Check(d); e != api.OK || !code.Plain(d) {
		t.Fatalf("Build doesn't answer plain code: %d, of\n%s:\n%s", e, told(c), told(d))
	}
	wantForm(t, c, d)
	return d
}

// wantForm holds what the chapter says of the code, whatever code it is.
func wantForm(t *testing.T, c, d api.Code) {
	t.Helper()
	if d.Main != c.Main || len(d.Funs) != len(c.Funs) || len(d.Stops)+len(c.Stops) > 0 && !reflect.DeepEqual(d.Stops, c.Stops) {
		t.Fatalf("other functions, or other stops, of\n%s:\n%s", told(c), told(d))
	}
	for i, f := range c.Funs {
		g := d.Funs[i]
		if g.Params != f.Params || g.Vars != 0 || len(g.Blocks) != len(f.Blocks) {
			t.Fatalf("the function %d is another one, of\n%s:\n%s", i, told(c), told(d))
		}
		for k, b := range f.Blocks {
			if x := g.Blocks[k]; x.End != b.End || x.To != b.To || x.Else != b.Else || !reflect.DeepEqual(staying(x), staying(b)) {
				t.Fatalf("the block %d of the function %d is another one, of\n%s:\n%s", k, i, told(c), told(d))
			}
		}
	}
}

// stays is what stays of an instruction.
type stays struct {
	op    byte
	imm   int64
	site  int
	makes bool
}

func staying(b api.Block) []stays {
	var l []stays
	for _, x := range b.Insts {
		switch x.Op {
		case api.IGet, api.ISet, api.IConst, api.ICopy:
		default:
			l = append(l, stays{x.Op, x.Imm, x.Site, x.Dst != -1})
		}
	}
	return l
}

// enough is as much fuel as the chapter says is enough for a run of the code that was built.
func enough(c api.Code, steps int) int {
	n := code.Size(c) + 10
	for _, f := range c.Funs {
		n += len(f.Blocks)
	}
	return min(api.MaxFuel, (steps+1)*n)
}

// hold runs code, and what is built of it, and holds the ends and the states at the marks against each other; it answers how they end.
func hold(t *testing.T, c api.Code, input []int64, fuel int) byte {
	t.Helper()
	d := mustBuild(t, c)
	return holdRuns(t, c, d, input, fuel)
}

func holdRuns(t *testing.T, c, d api.Code, input []int64, fuel int) byte {
	t.Helper()
	want, e := trace.Run(c, input, fuel)
	if e != api.OK {
		t.Fatalf("no run: %d, of %s", e, told(c))
	}
	much := enough(c, want.Steps)
	if want.End != api.StopFuel {
		r, _ := trace.Run(d, input, much)
		want.Steps = r.Steps
		if !reflect.DeepEqual(r, want) {
			t.Fatalf("the run ends with\n%+v, want\n%+v, of\n%s:\n%s", r, want, told(c), told(d))
		}
	}
	for k := 1; k <= want.Marks; k++ {
		if k > 30 && k <= want.Marks-3 {
			continue
		}
		l, n, e := trace.State(c, input, k, fuel)
		m, o, g := trace.State(d, input, k, much)
		if e != api.OK || g != api.OK || n != o || !reflect.DeepEqual(l, m) {
			t.Fatalf("the state at the mark %d is\n%+v %d %d, want\n%+v %d, of\n%s:\n%s", k, m, o, g, l, n, told(c), told(d))
		}
	}
	return want.End
}

// holdOuts holds a run that halts, too, against what it must print.
func holdOuts(t *testing.T, c api.Code, input []int64, want ...int64) {
	t.Helper()
	if end := hold(t, c, input, 1000); end != api.Halt {
		t.Errorf("the run ends with %d", end)
	}
	d := mustBuild(t, c)
	r, _ := trace.Run(d, input, 10000)
	if len(r.Outs)+len(want) > 0 && !reflect.DeepEqual(r.Outs, want) {
		t.Errorf("the run prints %v, want %v, of %s", r.Outs, want, told(d))
	}
}

// wantShown holds what is shown at a mark in its innermost frame: of each variable its number.
func wantShown(t *testing.T, c api.Code, input []int64, k int, want map[int]int64) {
	t.Helper()
	hold(t, c, input, 1000)
	l, _, e := trace.State(mustBuild(t, c), input, k, 10000)
	if e != api.OK {
		t.Fatal("no such mark", k, e)
	}
	had := map[int]int64{}
	for _, s := range l[0].Vars {
		had[s.Var] = s.N
	}
	if !reflect.DeepEqual(had, want) {
		t.Errorf("at the mark %d is shown %v, want %v", k, had, want)
	}
}

// count answers how many instructions and phis with an Op there are.
func count(c api.Code, op byte) int {
	n := 0
	for _, f := range c.Funs {
		for _, b := range f.Blocks {
			for _, l := range [][]api.Inst{b.Phis, b.Insts} {
				for _, x := range l {
					if x.Op == op {
						n++
					}
				}
			}
		}
	}
	return n
}

func wantPhis(t *testing.T, c api.Code, want int) {
	t.Helper()
	if n := count(mustBuild(t, c), api.IPhi); n != want {
		t.Errorf("%d phis, want %d, of %s", n, want, told(c))
	}
}

// inst is an instruction at the stop 0.
func inst(op byte, dst int, args ...int) api.Inst {
	return api.Inst{Op: op, Dst: dst, Args: args}
}

func number(dst int, n int64) api.Inst {
	return api.Inst{Op: api.IConst, Dst: dst, Imm: n}
}

func get(dst, variable int) api.Inst {
	return api.Inst{Op: api.IGet, Dst: dst, Imm: int64(variable)}
}

func set(variable, value int) api.Inst {
	return api.Inst{Op: api.ISet, Dst: -1, Args: []int{value}, Imm: int64(variable)}
}

func show(value int) api.Inst {
	return inst(api.IPrint, -1, value)
}

func call(dst, fn int, args ...int) api.Inst {
	return api.Inst{Op: api.ICall, Dst: dst, Args: args, Imm: int64(fn)}
}

func param(dst, n int) api.Inst {
	return api.Inst{Op: api.IParam, Dst: dst, Imm: int64(n)}
}

func phi(dst int, args ...int) api.Inst {
	return api.Inst{Op: api.IPhi, Dst: dst, Args: args}
}

// at is an instruction at a stop, with what is known there.
func at(stop int, x api.Inst, known ...api.Dbg) api.Inst {
	x.Site, x.Dbg = stop, known
	return x
}

// mark is one at which variables are known, by their own numbers.
func mark(variables ...int) api.Inst {
	x := inst(api.IMark, -1)
	for _, v := range variables {
		x.Dbg = append(x.Dbg, isVariable(v, v))
	}
	return x
}

func isNumber(variable int, b int64) api.Dbg {
	return api.Dbg{Var: variable, Kind: api.DNum, B: b}
}

func isValue(variable, value int, a, b int64) api.Dbg {
	return api.Dbg{Var: variable, Kind: api.DVal, Arg: value, A: a, B: b}
}

func isVariable(variable, arg int) api.Dbg {
	return api.Dbg{Var: variable, Kind: api.DVar, Arg: arg}
}

func deeper(depth int, d api.Dbg) api.Dbg {
	d.Depth = depth
	return d
}

func answers(value int, insts ...api.Inst) api.Block {
	return api.Block{Insts: insts, End: api.RetVal, Arg: value}
}

func ends(insts ...api.Inst) api.Block {
	return api.Block{Insts: insts, End: api.RetNone}
}

func goes(to int, insts ...api.Inst) api.Block {
	return api.Block{Insts: insts, End: api.GoTo, To: to}
}

func branch(arg, to, other int, insts ...api.Inst) api.Block {
	return api.Block{Insts: insts, End: api.Branch, Arg: arg, To: to, Else: other}
}

// behind is a block with phis.
func behind(b api.Block, phis ...api.Inst) api.Block {
	b.Phis = phis
	return b
}

// fun is a function with more variables and values than it needs.
func fun(params int, blocks ...api.Block) api.Fun {
	return api.Fun{Params: params, Vars: 6, Vals: 50, Blocks: blocks}
}

// program is code whose first function is Main, with 8 stops, each of one frame.
func program(funs ...api.Fun) api.Code {
	c := api.Code{Funs: funs}
	for n := range 8 {
		c.Stops = append(c.Stops, []api.Spot{{Fn: n % 3, Stmt: n + 1}})
	}
	return c
}

// main is code of one function.
func main(blocks ...api.Block) api.Code {
	return program(fun(0, blocks...))
}
