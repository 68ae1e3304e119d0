package tree

import (
	"strconv"
	"strings"

	"teasel/api"
)

// writer writes a program's canonical text. It writes at most left parts: a text of MaxSource bytes has no more of them, and a program that stands in itself must end, too.
type writer struct {
	text strings.Builder
	left int
}

// Show answers the canonical text of a program that Parse answers; of another one, some text.
func Show(p api.Prog) string {
	w := writer{left: api.MaxSource}
	for _, f := range p.Funcs {
		if w.more() {
			w.function(f)
		}
	}
	return w.text.String()
}

func (w *writer) put(texts ...string) {
	for _, t := range texts {
		w.text.WriteString(t)
	}
}

// more counts a part that is to be written.
func (w *writer) more() bool {
	w.left--
	return w.left >= 0
}

func (w *writer) function(f api.Func) {
	w.put("fn ", f.Name, "(")
	for i, q := range f.Params {
		if i > 0 {
			w.put(", ")
		}
		w.put(q.Name, ": ", Name(q.Type))
	}
	w.put(")")
	if f.Result != api.TNone {
		w.put(": ", Name(f.Result))
	}
	w.block(f.Body, 0)
	w.put("\n")
}

// block writes a blank and a block up to its }; what it stands in is depth steps to the right.
func (w *writer) block(body []api.Stmt, depth int) {
	w.put(" {\n")
	if depth < api.MaxNest {
		w.statements(body, depth+1)
	}
	w.indent(depth)
	w.put("}")
}

func (w *writer) statements(body []api.Stmt, depth int) {
	for _, s := range body {
		if !w.more() {
			return
		}
		w.indent(depth)
		w.statement(s, depth)
		w.put("\n")
	}
}

func (w *writer) indent(depth int) {
	w.put(strings.Repeat("  ", depth))
}

func (w *writer) statement(s api.Stmt, depth int) {
	switch s.Kind {
	case api.SIf:
		w.put("if ")
		w.expr(part(s.Exprs, 0))
		w.block(s.Body, depth)
		if len(s.Else) > 0 {
			w.put(" else")
			w.block(s.Else, depth)
		}
	case api.SWhile:
		w.put("while ")
		w.expr(part(s.Exprs, 0))
		w.block(s.Body, depth)
	default:
		w.plain(s)
		w.put(";")
	}
}

// plain writes a statement without blocks, but for its semicolon.
func (w *writer) plain(s api.Stmt) {
	switch s.Kind {
	case api.SLet:
		w.put("let ", s.Name, ": ", Name(s.Type))
		if s.Type == api.TArr {
			w.put("[", strconv.FormatInt(s.N, 10), "]")
		} else if len(s.Exprs) > 0 {
			w.put(" = ")
			w.expr(s.Exprs[0])
		}
	case api.SSet:
		w.put(s.Name, " = ")
		w.expr(part(s.Exprs, 0))
	case api.SPut:
		w.put(s.Name, "[")
		w.expr(part(s.Exprs, 0))
		w.put("] = ")
		w.expr(part(s.Exprs, 1))
	case api.SReturn:
		w.put("return")
		if len(s.Exprs) > 0 {
			w.put(" ")
			w.expr(s.Exprs[0])
		}
	case api.SPrint:
		w.put("print ")
		w.expr(part(s.Exprs, 0))
	case api.SCall:
		w.expr(part(s.Exprs, 0))
	}
}

// part answers an expression of a list, or one of no kind where there is none, as in a program that Parse doesn't answer.
func part(l []api.Expr, i int) api.Expr {
	if i < len(l) {
		return l[i]
	}
	return api.Expr{}
}

func (w *writer) expr(e api.Expr) {
	if !w.more() {
		return
	}
	switch e.Kind {
	case api.ENum:
		w.put(strconv.FormatInt(e.N, 10))
	case api.EBool:
		w.put(strconv.FormatBool(e.N != 0))
	case api.EVar:
		w.put(e.Name)
	case api.EElem:
		w.put(e.Name, "[")
		w.expr(part(e.Args, 0))
		w.put("]")
	case api.ECall:
		w.call(e)
	case api.ERead:
		w.put("read()")
	case api.ELen:
		w.put("len(", e.Name, ")")
	case api.EUn:
		sign, strength := Signs(e.Op)
		w.put(sign)
		w.operand(part(e.Args, 0), strength)
	case api.EBin:
		sign, strength := Signs(e.Op)
		w.operand(part(e.Args, 0), strength)
		w.put(" ", sign, " ")
		w.operand(part(e.Args, 1), strength+1)
	}
}

func (w *writer) call(e api.Expr) {
	w.put(e.Name, "(")
	for i := 0; i < len(e.Args) && w.left > 0; i++ {
		if i > 0 {
			w.put(", ")
		}
		w.expr(e.Args[i])
	}
	w.put(")")
}

// operand writes an expression, in brackets if it is a binary one that binds less strongly than it must.
func (w *writer) operand(e api.Expr, least int) {
	_, strength := Signs(e.Op)
	if e.Kind != api.EBin || strength >= least {
		w.expr(e)
		return
	}
	w.put("(")
	w.expr(e)
	w.put(")")
}
