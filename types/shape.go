package types

import "teasel/api"

// shape holds a program against what tree.Parse answers, so that the rules meet no parts but those. It takes no more of them than a text can have: what stands in itself has an end, too.
type shape struct {
	statements int
	left       int
}

// statements answers how many statements a program has; it gives up at one that tree.Parse doesn't answer.
func statements(p api.Prog) int {
	s := shape{left: api.MaxSource}
	for _, f := range p.Funcs {
		s.function(f)
	}
	return s.statements
}

func require(ok bool) {
	if !ok {
		giveUp(0, api.ErrForm)
	}
}

// part counts a part of the program.
func (s *shape) part() {
	s.left--
	require(s.left >= 0)
}

func (s *shape) function(f api.Func) {
	s.part()
	require(f.Result == api.TNone || f.Result == api.TInt || f.Result == api.TBool)
	for _, q := range f.Params {
		s.part()
		require(isType(q.Type))
	}
	s.body(f.Body)
}

func isType(kind byte) bool {
	return kind == api.TInt || kind == api.TBool || kind == api.TArr
}

func (s *shape) body(l []api.Stmt) {
	for _, x := range l {
		s.statement(x)
	}
}

func (s *shape) statement(x api.Stmt) {
	s.part()
	s.statements++
	require(x.ID == s.statements)
	require(hasItsExprs(x))
	for _, e := range x.Exprs {
		s.expr(e)
	}
	require(x.Kind == api.SIf || len(x.Else) == 0)
	require(x.Kind == api.SIf || x.Kind == api.SWhile || len(x.Body) == 0)
	s.body(x.Body)
	s.body(x.Else)
}

// hasItsExprs: is a statement of a kind that there is, and has as many expressions as one of it has?
func hasItsExprs(x api.Stmt) bool {
	n := len(x.Exprs)
	switch x.Kind {
	case api.SLet:
		return isType(x.Type) && (n == 0 || n == 1 && x.Type != api.TArr)
	case api.SSet, api.SIf, api.SWhile, api.SPrint:
		return n == 1
	case api.SPut:
		return n == 2
	case api.SReturn:
		return n <= 1
	case api.SCall:
		return n == 1 && x.Exprs[0].Kind == api.ECall
	}
	return false
}

func (s *shape) expr(e api.Expr) {
	s.part()
	require(hasItsArgs(e))
	for _, a := range e.Args {
		s.expr(a)
	}
}

// hasItsArgs: is an expression of a kind that there is, and has as many parts as one of it has?
func hasItsArgs(e api.Expr) bool {
	n := len(e.Args)
	switch e.Kind {
	case api.ENum, api.EBool, api.EVar, api.ERead, api.ELen:
		return n == 0
	case api.EElem:
		return n == 1
	case api.ECall:
		return true
	case api.EUn:
		return n == 1 && api.Neg <= e.Op && e.Op <= api.Bang
	case api.EBin:
		return n == 2 && api.Add <= e.Op && e.Op <= api.LOr
	}
	return false
}
