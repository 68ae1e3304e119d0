package lower

import "teasel/api"

// expr answers the value of an expression.
func (w *writer) expr(e api.Expr) int {
	switch e.Kind {
	case api.EVar:
		return w.variable(e.Name)
	case api.EElem:
		array := w.variable(e.Name)
		return w.make(api.ILoad, 0, array, w.expr(e.Args[0]))
	case api.ECall:
		fn, args := w.called(e)
		return w.make(api.ICall, fn, args...)
	case api.ERead:
		return w.make(api.IRead, 0)
	case api.ELen:
		return w.make(api.ILen, 0, w.variable(e.Name))
	case api.EUn:
		return w.signed(e)
	case api.EBin:
		return w.binary(e)
	}
	return w.make(api.IConst, e.N)
}

// signed writes an expression behind signs. A row of - and ~, however long, makes of it a times it, and n, where a is 1 or -1; of two ! nothing is left.
func (w *writer) signed(e api.Expr) int {
	inner := e.Args[0]
	if inner.Kind != api.EUn {
		return w.make(e.Op, 0, w.expr(inner))
	}
	if e.Op == api.Bang {
		return w.expr(inner.Args[0])
	}
	a, n := int64(1), int64(0)
	for ; e.Kind == api.EUn; e = e.Args[0] {
		if e.Op == api.Not {
			n -= a
		}
		a = -a
	}
	v := w.expr(e)
	switch {
	case a == -1:
		return w.make(api.Sub, 0, w.make(api.IConst, n), v)
	case n != 0:
		return w.make(api.Add, 0, v, w.make(api.IConst, n))
	}
	return v
}

func (w *writer) variable(name string) int {
	return w.make(api.IGet, int64(w.numbers[name]))
}

// called answers the function that is called, and the values that it is given.
func (w *writer) called(e api.Expr) (int64, []int) {
	args := make([]int, len(e.Args))
	for i, a := range e.Args {
		args[i] = w.expr(a)
	}
	return int64(w.funcs[e.Name]), args
}

func (w *writer) binary(e api.Expr) int {
	op := e.Op
	switch op {
	case api.LAnd:
		op = api.And
	case api.LOr:
		op = api.Or
	}
	if op != e.Op && !isAtHand(e.Args[1]) {
		return w.lazy(e)
	}
	left := w.expr(e.Args[0])
	return w.make(op, 0, left, w.expr(e.Args[1]))
}

// isAtHand tells whether an expression is a variable, true or false, or the opposite of one: nothing is won by going round it, and nothing happens where it is looked at.
func isAtHand(e api.Expr) bool {
	for e.Kind == api.EUn && e.Op == api.Bang {
		e = e.Args[0]
	}
	return e.Kind == api.EVar || e.Kind == api.EBool
}

// lazy goes round the right operand where the left one decides: what is answered then is the left one. As the block from which that comes was made first, its value is the phi's first.
func (w *writer) lazy(e api.Expr) int {
	left := w.expr(e.Args[0])
	from := w.block
	look := w.begin()
	right := w.expr(e.Args[1])
	behind := w.next()
	if e.Op == api.LAnd {
		w.branch(from, left, look, behind)
	} else {
		w.branch(from, left, behind, look)
	}
	v := w.value()
	b := &w.fun.Blocks[behind]
	b.Phis = append(b.Phis, api.Inst{Op: api.IPhi, Dst: v, Args: []int{left, right}})
	return v
}
