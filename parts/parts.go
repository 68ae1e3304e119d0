// Package parts has short words for parts of code between, so that tests can write code down.
package parts

import "teasel/api"

// Inst is an instruction at the stop 0.
func Inst(op byte, dst int, args ...int) api.Inst {
	return api.Inst{Op: op, Dst: dst, Args: args}
}

// Number makes one.
func Number(dst int, n int64) api.Inst {
	return api.Inst{Op: api.IConst, Dst: dst, Imm: n}
}

// Read reads one.
func Read(dst int) api.Inst {
	return api.Inst{Op: api.IRead, Dst: dst}
}

// Show prints a value.
func Show(value int) api.Inst {
	return Inst(api.IPrint, -1, value)
}

// Call is one of a function; with dst -1 its answer is forgotten.
func Call(dst, fn int, args ...int) api.Inst {
	return api.Inst{Op: api.ICall, Dst: dst, Args: args, Imm: int64(fn)}
}

// Param is a parameter.
func Param(dst, n int) api.Inst {
	return api.Inst{Op: api.IParam, Dst: dst, Imm: int64(n)}
}

// Phi takes its Args by the blocks from which it is come to, rising.
func Phi(dst int, args ...int) api.Inst {
	return api.Inst{Op: api.IPhi, Dst: dst, Args: args}
}

// Mark is one at the stop 0.
func Mark(known ...api.Dbg) api.Inst {
	return api.Inst{Op: api.IMark, Dst: -1, Dbg: known}
}

// At is an instruction at a stop, with what else is known there.
func At(stop int, x api.Inst, known ...api.Dbg) api.Inst {
	x.Site = stop
	x.Dbg = append(x.Dbg, known...)
	return x
}

// IsNumber is known of a variable that is b.
func IsNumber(variable int, b int64) api.Dbg {
	return api.Dbg{Var: variable, Kind: api.DNum, B: b}
}

// IsValue is known of a variable that is a times a value, and b.
func IsValue(variable, value int, a, b int64) api.Dbg {
	return api.Dbg{Var: variable, Kind: api.DVal, Arg: value, A: a, B: b}
}

// Deeper is what is known of a variable of an outer frame.
func Deeper(depth int, d api.Dbg) api.Dbg {
	d.Depth = depth
	return d
}

// Answers is a block that ends with an answer.
func Answers(value int, insts ...api.Inst) api.Block {
	return api.Block{Insts: insts, End: api.RetVal, Arg: value}
}

// Ends is a block that ends without an answer.
func Ends(insts ...api.Inst) api.Block {
	return api.Block{Insts: insts, End: api.RetNone}
}

// Goes is a block that goes on to another one.
func Goes(to int, insts ...api.Inst) api.Block {
	return api.Block{Insts: insts, End: api.GoTo, To: to}
}

// Branch is a block that goes on to one of two, by a value.
func Branch(value, to, other int, insts ...api.Inst) api.Block {
	return api.Block{Insts: insts, End: api.Branch, Arg: value, To: to, Else: other}
}

// Behind is a block with phis.
func Behind(b api.Block, phis ...api.Inst) api.Block {
	b.Phis = phis
	return b
}

// Fun is a function, whose values may have the numbers up to 49.
func Fun(params int, blocks ...api.Block) api.Fun {
	return api.Fun{Params: params, Vals: 50, Blocks: blocks}
}

// Program is code whose first function is Main, with 8 stops, of one frame those with even numbers, of two the others.
func Program(funs ...api.Fun) api.Code {
	c := api.Code{Funs: funs}
	for n := range 8 {
		stop := []api.Spot{{Fn: n % 3, Stmt: n + 1}}
		if n%2 == 1 {
			stop = append(stop, api.Spot{Fn: 7, Stmt: 20 + n})
		}
		c.Stops = append(c.Stops, stop)
	}
	return c
}

// Main is code of one function.
func Main(blocks ...api.Block) api.Code {
	return Program(Fun(0, blocks...))
}

// Count answers how many instructions and phis of code have an Op.
func Count(c api.Code, op byte) int {
	n := 0
	for _, f := range c.Funs {
		for _, b := range f.Blocks {
			for _, l := range [][]api.Inst{b.Phis, b.Insts} {
				for _, x := range l {
					if x.Op == op {
						n++
					}
				}
			}
		}
	}
	return n
}
