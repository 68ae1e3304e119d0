package types_test

import (
	"strings"
	"testing"

	"teasel/api"
	"teasel/types"
)

// every is a program that has all kinds of parts.
const every = "fn f(p: int, q: bool, a: arr): int { return p; } fn g() { return; } fn main(): int { let b: arr[4]; let i: int = 0; let j: bool; while i < 3 { b[i] = f(i, true, b); i = i + len(b); } if !(i == 3) { g(); } else { print b[0] + -read(); } return f(2, false && i < 1, b); }"

// treeParts are a program's parts, as those that a test may write over.
type treeParts struct {
	funcs []*api.Func
	stmts []*api.Stmt
	exprs []*api.Expr
}

func partsOf(p api.Prog) *treeParts {
	l := &treeParts{}
	for i := range p.Funcs {
		l.funcs = append(l.funcs, &p.Funcs[i])
		l.body(p.Funcs[i].Body)
	}
	return l
}

func (l *treeParts) body(body []api.Stmt) {
	for i := range body {
		l.stmts = append(l.stmts, &body[i])
		l.list(body[i].Exprs)
		l.body(body[i].Body)
		l.body(body[i].Else)
	}
}

func (l *treeParts) list(exprs []api.Expr) {
	for i := range exprs {
		l.exprs = append(l.exprs, &exprs[i])
		l.list(exprs[i].Args)
	}
}

// wantNoForm writes over one part after the other of a program, and wants each such program to be refused.
func wantNoForm[T any](t *testing.T, what string, list func(l *treeParts) []*T, spoil func(x *T) bool) {
	t.Helper()
	spoilt := 0
	for i := range list(partsOf(mustParse(t, every))) {
		p := mustParse(t, every)
		if !spoil(list(partsOf(p))[i]) {
			continue
		}
		spoilt++
		info, at, e := types.Check(p)
		if e != api.ErrForm || at != 0 || len(info.Vars) != 0 || len(info.Points) != 0 {
			t.Errorf("%s, number %d: %d at %d", what, i, e, at)
		}
	}
	if spoilt == 0 {
		t.Errorf("%s: no part was written over", what)
	}
}

func TestFunctionsThatParseDoesNotAnswer(t *testing.T) {
	wantText(t, every, api.OK)
	funcs := func(l *treeParts) []*api.Func { return l.funcs }
	for _, kind := range []byte{api.TArr, 4, 255} {
		wantNoForm(t, "a result", funcs, func(f *api.Func) bool { f.Result = kind; return true })
	}
	for _, kind := range []byte{api.TNone, 4, 255} {
		wantNoForm(t, "a parameter", funcs, func(f *api.Func) bool {
			for i := range f.Params {
				f.Params[i].Type = kind
			}
			return len(f.Params) > 0
		})
	}
}

func TestStatementsThatParseDoesNotAnswer(t *testing.T) {
	stmts := func(l *treeParts) []*api.Stmt { return l.stmts }
	num := api.Expr{Kind: api.ENum}
	for _, id := range []int{0, -1, 99, 1 << 40} {
		wantNoForm(t, "a number", stmts, func(s *api.Stmt) bool { s.ID = id; return true })
	}
	for _, kind := range []byte{0, 9, 255} {
		wantNoForm(t, "a kind", stmts, func(s *api.Stmt) bool { s.Kind = kind; return true })
		wantNoForm(t, "a let's type", stmts, func(s *api.Stmt) bool { s.Type = kind; return s.Kind == api.SLet })
	}
	wantNoForm(t, "too many expressions", stmts, func(s *api.Stmt) bool { s.Exprs = []api.Expr{num, num, num}; return true })
	wantNoForm(t, "two expressions", stmts, func(s *api.Stmt) bool { s.Exprs = []api.Expr{num, num}; return s.Kind != api.SPut })
	wantNoForm(t, "one expression", stmts, func(s *api.Stmt) bool {
		s.Exprs = []api.Expr{num}
		return s.Kind == api.SPut || s.Kind == api.SCall || s.Type == api.TArr
	})
	wantNoForm(t, "no expression", stmts, func(s *api.Stmt) bool { s.Exprs = nil; return s.Kind != api.SLet && s.Kind != api.SReturn })
	wantNoForm(t, "a block", stmts, func(s *api.Stmt) bool {
		s.Body = []api.Stmt{{Kind: api.SReturn, ID: s.ID + 1}}
		return s.Kind != api.SIf && s.Kind != api.SWhile
	})
	wantNoForm(t, "an else", stmts, func(s *api.Stmt) bool {
		s.Else = []api.Stmt{{Kind: api.SReturn, ID: s.ID + 1 + len(s.Body)}}
		return s.Kind != api.SIf
	})
}

func TestExpressionsThatParseDoesNotAnswer(t *testing.T) {
	exprs := func(l *treeParts) []*api.Expr { return l.exprs }
	num := api.Expr{Kind: api.ENum}
	for _, kind := range []byte{0, 10, 255} {
		wantNoForm(t, "a kind", exprs, func(e *api.Expr) bool { e.Kind = kind; return true })
	}
	for _, op := range []byte{0, api.Ne, api.LOr, 22, 255} {
		wantNoForm(t, "a sign of one", exprs, func(e *api.Expr) bool { e.Op = op; return e.Kind == api.EUn })
	}
	for _, op := range []byte{0, api.Neg, api.Bang, 255} {
		wantNoForm(t, "a sign of two", exprs, func(e *api.Expr) bool { e.Op = op; return e.Kind == api.EBin })
	}
	for n := range 4 {
		wantNoForm(t, "parts", exprs, func(e *api.Expr) bool {
			had := len(e.Args)
			e.Args = []api.Expr{num, num, num}[:n]
			return e.Kind != api.ECall && had != n
		})
	}
}

func TestNoFunctions(t *testing.T) {
	for _, p := range []api.Prog{{}, {Funcs: make([]api.Func, 3)}, {Funcs: []api.Func{{}}}} {
		if info, at, e := types.Check(p); e == api.OK || at != 0 || len(info.Vars) != 0 {
			t.Errorf("Check(%v) = %v %d %d", p, info, at, e)
		}
	}
}

func mainOf(s api.Stmt) api.Prog {
	one := []api.Expr{{Kind: api.ENum, N: 1}}
	return api.Prog{Funcs: []api.Func{{Name: "main", Result: api.TInt, Body: []api.Stmt{s, {Kind: api.SReturn, ID: 2, Exprs: one}}}}}
}

// TestPartsOfManyParts: a part that stands in another one twice, and this in a third one twice, and so on, are more parts than one can go through.
func TestPartsOfManyParts(t *testing.T) {
	e := api.Expr{Kind: api.ENum}
	for range 60 {
		e = api.Expr{Kind: api.EBin, Op: api.Add, Args: []api.Expr{e, e}}
	}
	types.Check(mainOf(api.Stmt{Kind: api.SPrint, ID: 1, Exprs: []api.Expr{e}}))
	call := api.Expr{Kind: api.ECall, Name: "main"}
	for range 60 {
		call = api.Expr{Kind: api.ECall, Name: "main", Args: []api.Expr{call, call, call}}
	}
	types.Check(mainOf(api.Stmt{Kind: api.SCall, ID: 1, Exprs: []api.Expr{call}}))
}

// TestDeepTrees: as deep as what is promised goes.
func TestDeepTrees(t *testing.T) {
	const deep = 1 << 16
	e := api.Expr{Kind: api.ENum}
	for range deep {
		e = api.Expr{Kind: api.EUn, Op: api.Neg, Args: []api.Expr{e}}
	}
	types.Check(mainOf(api.Stmt{Kind: api.SPrint, ID: 1, Exprs: []api.Expr{e}}))
	s := api.Stmt{Kind: api.SPrint, ID: deep, Exprs: []api.Expr{{Kind: api.ENum}}}
	for i := range deep - 1 {
		s = api.Stmt{Kind: api.SWhile, ID: deep - 1 - i, Exprs: []api.Expr{{Kind: api.EBool}}, Body: []api.Stmt{s}}
	}
	types.Check(mainOf(s))
	wantBody(t, "print "+strings.Repeat("-", 19000)+"1;", api.OK)
	wantBody(t, "print "+strings.Repeat("-", 19000)+"@true;", api.ErrType)
	wantBody(t, "print 1"+strings.Repeat("+1", 9000)+";", api.OK)
	wantBody(t, "print 1"+strings.Repeat("+1", 9000)+"+@true;", api.ErrType)
	wantBody(t, strings.Repeat("if true {", 199)+"@x = 1;"+strings.Repeat("}", 199), api.ErrName)
}

// TestAsManyPartsAsATextHas: a program that Parse answers isn't refused, however many parts it has.
func TestAsManyPartsAsATextHas(t *testing.T) {
	s := "fn f(){}fn main():int{return 1"
	wantText(t, s+strings.Repeat("+1", (api.MaxSource-len(s)-2)/2)+";}", api.OK)
	s = "fn main():int{return 0;}fn f(){"
	wantText(t, s+strings.Repeat("f();", (api.MaxSource-len(s)-1)/4)+"}", api.OK)
}
