package types

import "teasel/api"

// must holds an expression against its own rules, then against the type that it must have.
func (c *checker) must(e api.Expr, kind byte) {
	if c.kind(e) != kind {
		giveUp(e.At, api.ErrType)
	}
}

// plain holds an expression against being an int or a bool, and answers which.
func (c *checker) plain(e api.Expr) byte {
	kind := c.kind(e)
	if kind != api.TInt && kind != api.TBool {
		giveUp(e.At, api.ErrType)
	}
	return kind
}

// kind holds an expression against its rules, and answers its type.
func (c *checker) kind(e api.Expr) byte {
	switch e.Kind {
	case api.EBool:
		return api.TBool
	case api.EVar:
		return c.variable(e)
	case api.EElem:
		c.array(e.Name, e.At)
		c.must(e.Args[0], api.TInt)
	case api.ECall:
		return c.call(e)
	case api.ELen:
		c.array(e.Name, e.At)
	case api.EUn:
		return c.unary(e)
	case api.EBin:
		return c.binary(e)
	}
	return api.TInt
}

func (c *checker) variable(e api.Expr) byte {
	n := c.visible(e.Name, e.At)
	if _, ok := c.sure[n]; !ok {
		giveUp(e.At, api.ErrInit)
	}
	return c.vars[n].Type
}

func (c *checker) call(e api.Expr) byte {
	i, ok := c.named[e.Name]
	if !ok {
		giveUp(e.At, api.ErrName)
	}
	f := c.funcs[i]
	if len(e.Args) != len(f.Params) {
		giveUp(e.At, api.ErrCount)
	}
	for k, a := range e.Args {
		c.must(a, f.Params[k].Type)
	}
	return f.Result
}

func (c *checker) unary(e api.Expr) byte {
	kind := byte(api.TInt)
	if e.Op == api.Bang {
		kind = api.TBool
	}
	c.must(e.Args[0], kind)
	return kind
}

func (c *checker) binary(e api.Expr) byte {
	left, right := e.Args[0], e.Args[1]
	switch e.Op {
	case api.Eq, api.Ne:
		c.must(right, c.plain(left))
		return api.TBool
	case api.LAnd, api.LOr:
		c.must(left, api.TBool)
		c.must(right, api.TBool)
		return api.TBool
	}
	c.must(left, api.TInt)
	c.must(right, api.TInt)
	switch e.Op {
	case api.Lt, api.Le, api.Gt, api.Ge:
		return api.TBool
	}
	return api.TInt
}
