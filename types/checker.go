package types

import (
	"maps"
	"strings"

	"teasel/api"
)

// checker goes through a program's functions, statement by statement; at the first rule that doesn't hold it panics.
type checker struct {
	scope
	funcs []api.Func
	named map[string]int
	fn    int
	open  int
	info  api.Info
}

// functions holds what stands ahead of the functions' blocks against the rules, and learns their names.
func (c *checker) functions() {
	for i, f := range c.funcs {
		if _, ok := c.named[f.Name]; ok {
			giveUp(f.At, api.ErrTwice)
		}
		c.named[f.Name] = i
		checkParams(f.Params)
	}
	i, ok := c.named["main"]
	if !ok {
		giveUp(0, api.ErrMain)
	}
	if f := c.funcs[i]; len(f.Params) > 0 || f.Result != api.TInt {
		giveUp(f.At, api.ErrMain)
	}
}

func checkParams(l []api.Param) {
	had := map[string]struct{}{}
	for i, q := range l {
		if i == api.MaxParams {
			giveUp(q.At, api.ErrCount)
		}
		if _, ok := had[q.Name]; ok {
			giveUp(q.At, api.ErrTwice)
		}
		had[q.Name] = struct{}{}
	}
}

func (c *checker) function(i int) {
	f := c.funcs[i]
	c.scope, c.fn = newScope(), i
	for _, q := range f.Params {
		c.sure[c.add(api.Var{Name: strings.Clone(q.Name), Type: q.Type})] = struct{}{}
	}
	if !c.block(f.Body) && f.Result != api.TNone {
		giveUp(f.At, api.ErrReturn)
	}
	c.info.Vars = append(c.info.Vars, c.vars)
}

// block tells whether a block returns, as its last statement does.
func (c *checker) block(body []api.Stmt) bool {
	first := len(c.vars)
	c.open++
	returns := false
	for _, s := range body {
		if returns {
			giveUp(s.At, api.ErrReach)
		}
		c.info.Points[s.ID] = api.Point{Fn: c.fn, Seen: c.rising(c.seen), Sure: c.rising(c.sure)}
		returns = c.statement(s)
	}
	c.open--
	c.leave(first)
	return returns
}

// statement tells whether a statement returns.
func (c *checker) statement(s api.Stmt) bool {
	switch s.Kind {
	case api.SLet:
		c.let(s)
	case api.SSet:
		c.assign(s)
	case api.SPut:
		c.array(s.Name, s.At)
		c.must(s.Exprs[0], api.TInt)
		c.must(s.Exprs[1], api.TInt)
	case api.SIf:
		return c.choice(s)
	case api.SWhile:
		c.loop(s)
	case api.SReturn:
		c.answer(s)
		return true
	case api.SPrint:
		c.plain(s.Exprs[0])
	case api.SCall:
		c.kind(s.Exprs[0])
	}
	return false
}

func (c *checker) let(s api.Stmt) {
	for _, e := range s.Exprs {
		c.must(e, s.Type)
	}
	array := s.Type == api.TArr
	switch {
	case c.had(s.Name):
		giveUp(s.At, api.ErrTwice)
	case array && c.open > 1:
		giveUp(s.At, api.ErrForm)
	case array && (s.N < 1 || s.N > api.MaxCells):
		giveUp(s.At, api.ErrArg)
	case len(c.vars) == api.MaxLocals:
		giveUp(s.At, api.ErrLong)
	}
	n := c.add(api.Var{Name: strings.Clone(s.Name), Type: s.Type, N: s.N, Stmt: s.ID})
	if array || len(s.Exprs) > 0 {
		c.sure[n] = struct{}{}
	}
}

func (c *checker) assign(s api.Stmt) {
	n := c.visible(s.Name, s.At)
	if c.vars[n].Type == api.TArr {
		giveUp(s.At, api.ErrType)
	}
	c.must(s.Exprs[0], c.vars[n].Type)
	c.sure[n] = struct{}{}
}

// choice goes through an if. Behind it a variable is sure that both blocks leave so; but no way leads out of a block that returns.
func (c *checker) choice(s api.Stmt) bool {
	c.must(s.Exprs[0], api.TBool)
	ahead := maps.Clone(c.sure)
	first := c.block(s.Body)
	behindFirst := c.sure
	c.sure = ahead
	second := c.block(s.Else)
	if second {
		c.sure = behindFirst
	} else if !first {
		meet(c.sure, behindFirst)
	}
	return first && second
}

func (c *checker) loop(s api.Stmt) {
	c.must(s.Exprs[0], api.TBool)
	ahead := maps.Clone(c.sure)
	c.block(s.Body)
	c.sure = ahead
}

// answer goes through a return. What a function without a result must not answer is told at once, whatever it is.
func (c *checker) answer(s api.Stmt) {
	result := c.funcs[c.fn].Result
	switch {
	case result != api.TNone && len(s.Exprs) == 0:
		giveUp(s.At, api.ErrType)
	case result != api.TNone:
		c.must(s.Exprs[0], result)
	case len(s.Exprs) > 0:
		giveUp(s.Exprs[0].At, api.ErrType)
	}
}
