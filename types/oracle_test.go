package types_test

import (
	"slices"
	"testing"

	"teasel/api"
	"teasel/samples"
	"teasel/tree"
	"teasel/types"
)

// ways are those that lead to a place, each as the variables that were given a value on it (bits, by their numbers).
type ways map[uint64]bool

func (w ways) with(n int) ways {
	l := ways{}
	for bits := range w {
		l[bits|1<<n] = true
	}
	return l
}

func (w ways) and(other ways) ways {
	l := ways{}
	for bits := range w {
		l[bits] = true
	}
	for bits := range other {
		l[bits] = true
	}
	return l
}

func (w ways) sure(n int) bool {
	for bits := range w {
		if bits>>n&1 == 0 {
			return false
		}
	}
	return true
}

// told is a rule that doesn't hold.
type told struct {
	at int
	e  api.Errno
}

// oracle goes through all of a program, whatever doesn't hold, and notes all of that in order. Unlike Check it follows the ways themselves, round and round through whiles; and what is seen is handed down as lists.
type oracle struct {
	p     api.Prog
	fn    int
	vars  []api.Var
	info  api.Info
	notes []told
	muted int
}

func (o *oracle) holds(is bool, at int, e api.Errno) {
	if !is && o.muted == 0 {
		o.notes = append(o.notes, told{at, e})
	}
}

func oracleOf(p api.Prog) (api.Info, told) {
	o := &oracle{p: p}
	o.faces()
	count := 0
	for _, f := range p.Funcs {
		count += countOf(f.Body)
	}
	o.info.Points = make([]api.Point, count+1)
	for i, f := range p.Funcs {
		o.fn, o.vars = i, nil
		var seen []int
		w := ways{0: true}
		for k, q := range f.Params {
			o.vars = append(o.vars, api.Var{Name: q.Name, Type: q.Type})
			seen = append(seen, k)
			w = w.with(k)
		}
		o.block(f.Body, seen, w, true)
		o.holds(f.Result == api.TNone || endsInReturn(f.Body), f.At, api.ErrReturn)
		o.info.Vars = append(o.info.Vars, o.vars)
	}
	if len(o.notes) > 0 {
		return api.Info{}, o.notes[0]
	}
	return o.info, told{}
}

func countOf(body []api.Stmt) int {
	n := len(body)
	for _, s := range body {
		n += countOf(s.Body) + countOf(s.Else)
	}
	return n
}

func (o *oracle) faces() {
	for i, f := range o.p.Funcs {
		o.holds(!slices.ContainsFunc(o.p.Funcs[:i], func(g api.Func) bool { return g.Name == f.Name }), f.At, api.ErrTwice)
		for k, q := range f.Params {
			o.holds(k != 6, q.At, api.ErrCount)
			o.holds(!slices.ContainsFunc(f.Params[:k], func(r api.Param) bool { return r.Name == q.Name }), q.At, api.ErrTwice)
		}
	}
	i := slices.IndexFunc(o.p.Funcs, func(f api.Func) bool { return f.Name == "main" })
	o.holds(i >= 0, 0, api.ErrMain)
	if i >= 0 {
		f := o.p.Funcs[i]
		o.holds(len(f.Params) == 0 && f.Result == api.TInt, f.At, api.ErrMain)
	}
}

func endsInReturn(body []api.Stmt) bool {
	return len(body) > 0 && returns(body[len(body)-1])
}

func returns(s api.Stmt) bool {
	return s.Kind == api.SReturn || s.Kind == api.SIf && endsInReturn(s.Body) && endsInReturn(s.Else)
}

// block answers the ways behind it.
func (o *oracle) block(body []api.Stmt, seen []int, w ways, own bool) ways {
	for i, s := range body {
		o.holds(i == 0 || !returns(body[i-1]), s.At, api.ErrReach)
		if o.muted == 0 {
			point := api.Point{Fn: o.fn, Seen: slices.Clone(seen)}
			for _, n := range seen {
				if w.sure(n) {
					point.Sure = append(point.Sure, n)
				}
			}
			o.info.Points[s.ID] = point
		}
		seen, w = o.statement(s, slices.Clone(seen), w, own)
	}
	return w
}

func (o *oracle) statement(s api.Stmt, seen []int, w ways, own bool) ([]int, ways) {
	for _, e := range s.Exprs {
		if s.Kind != api.SReturn && s.Kind != api.SSet && s.Kind != api.SPut {
			o.expr(e, seen, w)
		}
	}
	n := o.lookup(s.Name, seen)
	switch s.Kind {
	case api.SLet:
		return o.let(s, seen, w, own)
	case api.SSet:
		o.holds(n >= 0, s.At, api.ErrName)
		o.holds(n < 0 || o.vars[n].Type != api.TArr, s.At, api.ErrType)
		kind := o.expr(s.Exprs[0], seen, w)
		o.holds(n < 0 || kind == o.vars[n].Type, s.Exprs[0].At, api.ErrType)
		if n >= 0 {
			w = w.with(n)
		}
	case api.SPut:
		o.holds(n >= 0, s.At, api.ErrName)
		o.holds(n < 0 || o.vars[n].Type == api.TArr, s.At, api.ErrType)
		for _, e := range s.Exprs {
			o.holds(o.expr(e, seen, w) == api.TInt, e.At, api.ErrType)
		}
	case api.SIf:
		o.holds(o.quiet(s.Exprs[0], seen, w) == api.TBool, s.Exprs[0].At, api.ErrType)
		first := o.block(s.Body, seen, w, false)
		w = first.and(o.block(s.Else, seen, w, false))
	case api.SWhile:
		o.holds(o.quiet(s.Exprs[0], seen, w) == api.TBool, s.Exprs[0].At, api.ErrType)
		w = o.round(s, seen, w)
	case api.SReturn:
		o.result(s, seen, w)
		w = ways{}
	case api.SPrint:
		kind := o.quiet(s.Exprs[0], seen, w)
		o.holds(kind == api.TInt || kind == api.TBool, s.Exprs[0].At, api.ErrType)
	}
	return seen, w
}

// round goes through a while's block till no way comes to the while that hasn't come there before, and then once more, to note what holds of all of them.
func (o *oracle) round(s api.Stmt, seen []int, w ways) ways {
	o.muted++
	for had := 0; len(w) > had; {
		had = len(w)
		vars := slices.Clone(o.vars)
		w = w.and(o.block(s.Body, seen, w, false))
		o.vars = vars
	}
	o.muted--
	o.block(s.Body, seen, w, false)
	return w
}

func (o *oracle) let(s api.Stmt, seen []int, w ways, own bool) ([]int, ways) {
	for _, e := range s.Exprs {
		o.holds(o.quiet(e, seen, w) == s.Type, e.At, api.ErrType)
	}
	all := make([]int, len(o.vars))
	for i := range all {
		all[i] = i
	}
	o.holds(o.lookup(s.Name, all) < 0, s.At, api.ErrTwice)
	o.holds(s.Type != api.TArr || own, s.At, api.ErrForm)
	o.holds(s.Type != api.TArr || 1 <= s.N && s.N <= 256, s.At, api.ErrArg)
	n := len(o.vars)
	o.holds(n < 255, s.At, api.ErrLong)
	o.vars = append(o.vars, api.Var{Name: s.Name, Type: s.Type, N: s.N, Stmt: s.ID})
	if s.Type == api.TArr || len(s.Exprs) > 0 {
		w = w.with(n)
	}
	return append(seen, n), w
}

func (o *oracle) result(s api.Stmt, seen []int, w ways) {
	want := o.p.Funcs[o.fn].Result
	if len(s.Exprs) == 0 {
		o.holds(want == api.TNone, s.At, api.ErrType)
		return
	}
	o.holds(want != api.TNone, s.Exprs[0].At, api.ErrType)
	o.holds(o.expr(s.Exprs[0], seen, w) == want, s.Exprs[0].At, api.ErrType)
}

// lookup answers the last variable of a name among some; -1: there is none.
func (o *oracle) lookup(name string, among []int) int {
	for _, n := range slices.Backward(among) {
		if o.vars[n].Name == name {
			return n
		}
	}
	return -1
}

// quiet answers an expression's type once more, without notes.
func (o *oracle) quiet(e api.Expr, seen []int, w ways) byte {
	o.muted++
	defer func() { o.muted-- }()
	return o.expr(e, seen, w)
}

const anyPlain = 100

// takes answers what the operands of an operation must be, and what it is.
func takes(op byte) (byte, byte) {
	switch {
	case op <= api.Shr || op == api.Neg || op == api.Not:
		return api.TInt, api.TInt
	case op <= api.Ge:
		return api.TInt, api.TBool
	case op <= api.Ne:
		return anyPlain, api.TBool
	}
	return api.TBool, api.TBool
}

func (o *oracle) expr(e api.Expr, seen []int, w ways) byte {
	n := o.lookup(e.Name, seen)
	switch e.Kind {
	case api.EBool:
		return api.TBool
	case api.EVar:
		o.holds(n >= 0, e.At, api.ErrName)
		o.holds(n < 0 || w.sure(n), e.At, api.ErrInit)
		if n < 0 {
			return api.TNone
		}
		return o.vars[n].Type
	case api.EElem, api.ELen:
		o.holds(n >= 0, e.At, api.ErrName)
		o.holds(n < 0 || o.vars[n].Type == api.TArr, e.At, api.ErrType)
		for _, a := range e.Args {
			o.holds(o.expr(a, seen, w) == api.TInt, a.At, api.ErrType)
		}
	case api.ECall:
		return o.call(e, seen, w)
	case api.EUn, api.EBin:
		need, is := takes(e.Op)
		for _, a := range e.Args {
			kind := o.expr(a, seen, w)
			if need == anyPlain {
				need = api.TInt
				if kind == api.TBool {
					need = api.TBool
				}
			}
			o.holds(kind == need, a.At, api.ErrType)
		}
		return is
	}
	return api.TInt
}

func (o *oracle) call(e api.Expr, seen []int, w ways) byte {
	i := slices.IndexFunc(o.p.Funcs, func(f api.Func) bool { return f.Name == e.Name })
	o.holds(i >= 0, e.At, api.ErrName)
	if i < 0 {
		return api.TNone
	}
	f := o.p.Funcs[i]
	o.holds(len(f.Params) == len(e.Args), e.At, api.ErrCount)
	for k, a := range e.Args {
		kind := o.expr(a, seen, w)
		o.holds(k >= len(f.Params) || kind == f.Params[k].Type, a.At, api.ErrType)
	}
	return f.Result
}

// fits tells whether the oracle can follow a program: its functions have variables for the bits of a way at most.
func fits(p api.Prog) bool {
	for _, f := range p.Funcs {
		if len(f.Params)+countOf(f.Body) > 60 {
			return false
		}
	}
	return true
}

func holdAgainstOracle(t *testing.T, s string) api.Errno {
	t.Helper()
	p, _, e := tree.Parse(s)
	if e != api.OK || !fits(p) {
		return -1
	}
	info, at, e := types.Check(p)
	wantInfo, want := oracleOf(p)
	if at != want.at || e != want.e {
		t.Fatalf("Check tells %d at %d, want %d at %d, of\n%s", e, at, want.e, want.at, s)
	}
	if !same(info, wantInfo) {
		t.Fatalf("Check answers\n%+v, want\n%+v, of\n%s", info, wantInfo, s)
	}
	return e
}

func TestAgainstOracle(t *testing.T) {
	had := map[api.Errno]int{}
	for seed := range uint64(6000) {
		had[holdAgainstOracle(t, samples.Text(seed, int(seed%12)))]++
	}
	for _, e := range []api.Errno{api.OK, api.ErrArg, api.ErrForm, api.ErrName, api.ErrTwice, api.ErrType, api.ErrCount, api.ErrInit, api.ErrReach, api.ErrReturn, api.ErrMain} {
		if had[e] < 20 {
			t.Errorf("only %d of the texts have the error %d", had[e], e)
		}
	}
}

func FuzzCheck(f *testing.F) {
	for seed := range uint64(20) {
		f.Add(samples.Text(seed, int(seed)))
	}
	f.Add(whole)
	f.Fuzz(func(t *testing.T, s string) {
		if len(s) < 1000 {
			holdAgainstOracle(t, s)
		}
	})
}
