package tree

import "teasel/api"

// parser reads the grammar, a method a rule.
type parser struct {
	reader
	statements int
}

func (p *parser) program() api.Prog {
	var prog api.Prog
	for {
		prog.Funcs = append(prog.Funcs, p.function())
		if p.next().Kind == api.TokEnd {
			return prog
		}
	}
}

func (p *parser) function() api.Func {
	f := api.Func{At: p.expect("fn").At}
	f.Name = p.expectKind(api.TokName).Text
	p.list(func() { f.Params = append(f.Params, p.param()) })
	if p.accept(":") {
		f.Result = p.kind(api.TInt, api.TBool)
	}
	f.Body = p.block()
	return f
}

func (p *parser) param() api.Param {
	t := p.expectKind(api.TokName)
	p.expect(":")
	return api.Param{Name: t.Text, Type: p.kind(api.TInt, api.TBool, api.TArr), At: t.At}
}

// kind reads the name of one of the types that can stand there.
func (p *parser) kind(kinds ...byte) byte {
	for _, k := range kinds {
		if p.accept(Name(k)) {
			return k
		}
	}
	p.wrong()
	return api.TNone
}

func (p *parser) block() []api.Stmt {
	var body []api.Stmt
	p.expect("{")
	for !p.is("}") {
		body = append(body, p.statement())
	}
	p.expect("}")
	return body
}

func (p *parser) statement() api.Stmt {
	t := p.next()
	p.statements++
	s := api.Stmt{ID: p.statements, At: t.At}
	switch {
	case t.Kind == api.TokName:
		p.named(&s)
	case t.Text == "let":
		p.let(&s)
	case t.Text == "if":
		p.choice(&s)
	case t.Text == "while":
		p.take()
		s.Kind, s.Exprs, s.Body = api.SWhile, p.one(), p.block()
	case t.Text == "return":
		p.take()
		s.Kind = api.SReturn
		if !p.is(";") {
			s.Exprs = p.one()
		}
		p.expect(";")
	case t.Text == "print":
		p.take()
		s.Kind, s.Exprs = api.SPrint, p.one()
		p.expect(";")
	default:
		p.wrong()
	}
	return s
}

func (p *parser) let(s *api.Stmt) {
	p.expect("let")
	s.Kind = api.SLet
	s.Name = p.expectKind(api.TokName).Text
	p.expect(":")
	s.Type = p.kind(api.TInt, api.TBool, api.TArr)
	if s.Type == api.TArr {
		p.expect("[")
		s.N = p.expectKind(api.TokNum).N
		p.expect("]")
	} else if p.accept("=") {
		s.Exprs = p.one()
	}
	p.expect(";")
}

func (p *parser) choice(s *api.Stmt) {
	p.expect("if")
	s.Kind, s.Exprs, s.Body = api.SIf, p.one(), p.block()
	if p.accept("else") {
		s.Else = p.block()
	}
}

// named reads a statement that begins with a name: an assignment, that of a cell, or a call.
func (p *parser) named(s *api.Stmt) {
	t := p.expectKind(api.TokName)
	switch {
	case p.accept("="):
		s.Kind, s.Name, s.Exprs = api.SSet, t.Text, p.one()
	case p.is("["):
		s.Kind, s.Name, s.Exprs = api.SPut, t.Text, p.place()
		p.expect("=")
		s.Exprs = append(s.Exprs, p.expr())
	case p.is("("):
		s.Kind, s.Exprs = api.SCall, []api.Expr{p.call(t)}
	default:
		p.wrong()
	}
	p.expect(";")
}

// one reads an expression, as the list in which trees keep it.
func (p *parser) one() []api.Expr {
	return []api.Expr{p.expr()}
}

// place reads a cell's place in its brackets.
func (p *parser) place() []api.Expr {
	p.expect("[")
	l := p.one()
	p.expect("]")
	return l
}

func (p *parser) call(name api.Token) api.Expr {
	e := api.Expr{Kind: api.ECall, Name: name.Text, At: name.At}
	p.list(func() { e.Args = append(e.Args, p.expr()) })
	return e
}

func (p *parser) expr() api.Expr {
	return p.binary(1)
}

// binary reads unarys with signs between them that bind at least so strongly.
func (p *parser) binary(least int) api.Expr {
	left := p.unary()
	for {
		op, strength := infix(p.next().Text)
		if op == 0 || strength < least {
			return left
		}
		at := p.take().At
		right := p.binary(strength + 1)
		left = api.Expr{Kind: api.EBin, Op: op, At: at, Args: []api.Expr{left, right}}
	}
}

func (p *parser) unary() api.Expr {
	t := p.next()
	if op := prefix(t.Text); op != 0 {
		p.take()
		return api.Expr{Kind: api.EUn, Op: op, At: t.At, Args: []api.Expr{p.unary()}}
	}
	return p.operand()
}

// operand reads a unary without a sign ahead.
func (p *parser) operand() api.Expr {
	t := p.next()
	e := api.Expr{At: t.At}
	switch {
	case t.Kind == api.TokNum:
		e.Kind, e.N = api.ENum, p.take().N
	case t.Kind == api.TokName:
		return p.use(p.take())
	case p.accept("true"):
		e.Kind, e.N = api.EBool, 1
	case p.accept("false"):
		e.Kind = api.EBool
	case p.accept("read"):
		e.Kind = api.ERead
		p.expect("(")
		p.expect(")")
	case p.accept("len"):
		e.Kind = api.ELen
		p.expect("(")
		e.Name = p.expectKind(api.TokName).Text
		p.expect(")")
	case p.accept("("):
		e = p.expr()
		p.expect(")")
	default:
		p.wrong()
	}
	return e
}

// use reads what stands behind a name in an expression.
func (p *parser) use(name api.Token) api.Expr {
	switch {
	case p.is("["):
		return api.Expr{Kind: api.EElem, Name: name.Text, At: name.At, Args: p.place()}
	case p.is("("):
		return p.call(name)
	}
	return api.Expr{Kind: api.EVar, Name: name.Text, At: name.At}
}
