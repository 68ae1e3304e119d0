package lower

import "teasel/api"

// body tells whether a block returns, as its last statement does.
func (w *writer) body(l []api.Stmt) bool {
	returns := false
	for _, s := range l {
		returns = w.statement(s)
	}
	return returns
}

// statement tells whether a statement returns. That of a while isn't marked here: it begins again and again.
func (w *writer) statement(s api.Stmt) bool {
	if s.Kind == api.SWhile {
		w.loop(s)
		return false
	}
	w.mark(s.ID)
	switch s.Kind {
	case api.SLet:
		w.let(s)
	case api.SSet:
		w.assign(w.numbers[s.Name], w.expr(s.Exprs[0]))
	case api.SPut:
		array := w.variable(s.Name)
		place := w.expr(s.Exprs[0])
		w.do(api.IStore, 0, array, place, w.expr(s.Exprs[1]))
	case api.SIf:
		return w.choice(s)
	case api.SReturn:
		w.leave(s)
		return true
	case api.SPrint:
		w.do(api.IPrint, 0, w.expr(s.Exprs[0]))
	case api.SCall:
		fn, args := w.called(s.Exprs[0])
		w.do(api.ICall, fn, args...)
	}
	return false
}

func (w *writer) mark(stmt int) {
	w.stmt = stmt
	w.do(api.IMark, 0)
}

func (w *writer) let(s api.Stmt) {
	n := w.numbers[s.Name]
	if s.Type == api.TArr {
		w.assign(n, w.make(api.IAlloc, s.N))
	} else if len(s.Exprs) > 0 {
		w.assign(n, w.expr(s.Exprs[0]))
	}
}

func (w *writer) leave(s api.Stmt) {
	if len(s.Exprs) == 0 {
		w.answer(api.RetNone, 0)
		return
	}
	w.answer(api.RetVal, w.expr(s.Exprs[0]))
}

// choice tells whether both ways return: then nothing stands behind them.
func (w *writer) choice(s api.Stmt) bool {
	condition := w.expr(s.Exprs[0])
	from := w.block
	first := w.begin()
	var ends []int // those that go on behind the if
	if !w.body(s.Body) {
		ends = append(ends, w.block)
	}
	second := len(w.fun.Blocks) // the block that is made next: that of else, or the one behind
	if len(s.Else) > 0 {
		w.begin()
		if !w.body(s.Else) {
			ends = append(ends, w.block)
		}
	}
	w.branch(from, condition, first, second)
	if len(s.Else) > 0 && len(ends) == 0 {
		return true
	}
	behind := w.begin()
	for _, end := range ends {
		w.goTo(end, behind)
	}
	return false
}

func (w *writer) loop(s api.Stmt) {
	head := w.next()
	w.mark(s.ID)
	condition := w.expr(s.Exprs[0])
	from := w.block
	first := w.begin()
	if !w.body(s.Body) {
		w.goTo(w.block, head)
	}
	w.branch(from, condition, first, w.begin())
}
