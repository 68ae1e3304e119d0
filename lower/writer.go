package lower

import (
	"teasel/api"
	"teasel/code"
)

// writer writes the code of a function: in block is the one to which instructions are added, in stmt the statement of which they come; top is the value that tells how much of the heap was in use where the function began, -1, if it has no arrays.
type writer struct {
	points  []api.Point
	funcs   map[string]int
	numbers map[string]int
	fun     api.Fun
	block   int
	stmt    int
	top     int
}

func (w *writer) function(f api.Func, vars []api.Var) api.Fun {
	w.fun = api.Fun{Params: len(f.Params), Vars: len(vars)}
	w.numbers = map[string]int{}
	w.begin()
	for n, v := range vars {
		w.numbers[v.Name] = n
	}
	for n := range f.Params {
		w.assign(n, w.make(api.IParam, int64(n)))
	}
	w.top = -1
	if hasArrays(f) {
		w.top = w.make(api.ITop, 0)
	}
	if !w.body(f.Body) {
		w.answer(api.RetNone, 0)
	}
	return w.fun
}

// hasArrays looks at the function's own block alone: in others no array may be.
func hasArrays(f api.Func) bool {
	for _, s := range f.Body {
		if s.Kind == api.SLet && s.Type == api.TArr {
			return true
		}
	}
	return false
}

// begin makes a block and answers its number; what is written from now on stands in it.
func (w *writer) begin() int {
	w.block = len(w.fun.Blocks)
	w.fun.Blocks = append(w.fun.Blocks, api.Block{})
	return w.block
}

// next makes a block to which the one that was written goes on.
func (w *writer) next() int {
	from := w.block
	w.goTo(from, w.begin())
	return w.block
}

func (w *writer) goTo(from, to int) {
	b := &w.fun.Blocks[from]
	b.End, b.To = api.GoTo, to
}

func (w *writer) branch(from, condition, to, other int) {
	b := &w.fun.Blocks[from]
	b.End, b.Arg, b.To, b.Else = api.Branch, condition, to, other
}

// answer ends the function; its arrays are gone.
func (w *writer) answer(end byte, value int) {
	if w.top >= 0 {
		w.do(api.IFree, 0, w.top)
	}
	b := &w.fun.Blocks[w.block]
	b.End, b.Arg = end, value
}

// value answers the number of a new one.
func (w *writer) value() int {
	w.fun.Vals++
	return w.fun.Vals - 1
}

// make adds an instruction that makes a value, which it answers.
func (w *writer) make(op byte, imm int64, args ...int) int {
	v := w.value()
	w.add(api.Inst{Op: op, Dst: v, Args: args, Imm: imm})
	return v
}

// do adds an instruction that makes none.
func (w *writer) do(op byte, imm int64, args ...int) {
	w.add(api.Inst{Op: op, Dst: -1, Args: args, Imm: imm})
}

// add adds an instruction, with its stop and what is known there, if it has these.
func (w *writer) add(x api.Inst) {
	stops := x.Op == api.IMark || x.Op == api.ICall
	if stops || code.Traps(x.Op) {
		x.Site = w.stmt - 1
	}
	if stops {
		x.Dbg = w.known()
	}
	b := &w.fun.Blocks[w.block]
	b.Insts = append(b.Insts, x)
}

// known answers what is known where the statement began: no variable changes ahead of its end.
func (w *writer) known() []api.Dbg {
	sure := w.points[w.stmt].Sure
	l := make([]api.Dbg, len(sure))
	for i, n := range sure {
		l[i] = api.Dbg{Var: n, Kind: api.DVar, Arg: n}
	}
	return l
}

func (w *writer) assign(variable, value int) {
	w.do(api.ISet, int64(variable), value)
}
