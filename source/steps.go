package source

import "teasel/api"

// The kinds of steps. Steps take what they need from the top of a stack, and leave there what they answer.
const (
	enter    = 1 + iota // the statement n begins
	number              // n
	variable            // what the variable at has
	cell                // of the array that the variable at has
	length              // of that array
	one                 // an operation of one number
	two                 // an operation of two
	call                // of the function at
	read                // the next number of the input
	assign              // to the variable at
	put                 // into a cell of the array that the variable at has
	array               // a new one of n cells, for the variable at
	show                // what is on top is printed
	drop                // what is on top is forgotten
	jump                // to the step at
	unless              // to the step at, if 0 is on top
	ifZero              // the same, but then that stays on top
	ifOne               // to the step at, if 1 is on top, which then stays there
	answer              // the call ends, with what is on top
)

// step is a small part of what a statement does.
type step struct {
	kind byte
	op   byte
	at   int
	n    int64
}

// plan is a program laid out as steps; of each function where it begins, and how many parameters and variables it has. A run goes through steps, and not through the tree, as so many calls may be open, each so deep in an expression, that calls within calls would need more room than there is.
type plan struct {
	steps  []step
	begins []int
	params []int
	vars   []int
}

// planner lays out a program; where is the numbers of the variables of the function that it lays out.
type planner struct {
	plan
	funcs map[string]int
	where map[string]int
}

func newPlan(p api.Prog, info api.Info) plan {
	l := planner{funcs: map[string]int{}}
	for i, f := range p.Funcs {
		l.funcs[f.Name] = i
	}
	for i, f := range p.Funcs {
		l.function(f, info.Vars[i])
	}
	return l.plan
}

func (l *planner) function(f api.Func, vars []api.Var) {
	l.where = map[string]int{}
	for n, v := range vars {
		l.where[v.Name] = n
	}
	l.begins = append(l.begins, len(l.steps))
	l.params = append(l.params, len(f.Params))
	l.vars = append(l.vars, len(vars))
	l.body(f.Body)
	l.add(step{kind: number})
	l.add(step{kind: answer})
}

// add answers the place of the step that it adds.
func (l *planner) add(s step) int {
	l.steps = append(l.steps, s)
	return len(l.steps) - 1
}

// land lets a step lead to what is added next.
func (l *planner) land(place int) {
	l.steps[place].at = len(l.steps)
}

func (l *planner) body(body []api.Stmt) {
	for _, s := range body {
		l.statement(s)
	}
}

func (l *planner) statement(s api.Stmt) {
	first := l.add(step{kind: enter, at: s.ID})
	for _, e := range s.Exprs {
		l.expr(e)
	}
	switch s.Kind {
	case api.SLet:
		l.let(s)
	case api.SSet:
		l.add(step{kind: assign, at: l.where[s.Name]})
	case api.SPut:
		l.add(step{kind: put, at: l.where[s.Name]})
	case api.SIf:
		l.choice(s)
	case api.SWhile:
		out := l.add(step{kind: unless})
		l.body(s.Body)
		l.add(step{kind: jump, at: first})
		l.land(out)
	case api.SReturn:
		if len(s.Exprs) == 0 {
			l.add(step{kind: number})
		}
		l.add(step{kind: answer})
	case api.SPrint:
		l.add(step{kind: show})
	case api.SCall:
		l.add(step{kind: drop})
	}
}

func (l *planner) let(s api.Stmt) {
	if s.Type == api.TArr {
		l.add(step{kind: array, at: l.where[s.Name], n: s.N})
	} else if len(s.Exprs) > 0 {
		l.add(step{kind: assign, at: l.where[s.Name]})
	}
}

func (l *planner) choice(s api.Stmt) {
	toElse := l.add(step{kind: unless})
	l.body(s.Body)
	out := l.add(step{kind: jump})
	l.land(toElse)
	l.body(s.Else)
	l.land(out)
}

func (l *planner) expr(e api.Expr) {
	if e.Kind == api.EBin && (e.Op == api.LAnd || e.Op == api.LOr) {
		l.lazy(e)
		return
	}
	for _, a := range e.Args {
		l.expr(a)
	}
	switch e.Kind {
	case api.ENum, api.EBool:
		l.add(step{kind: number, n: e.N})
	case api.EVar:
		l.add(step{kind: variable, at: l.where[e.Name]})
	case api.EElem:
		l.add(step{kind: cell, at: l.where[e.Name]})
	case api.ECall:
		l.add(step{kind: call, at: l.funcs[e.Name]})
	case api.ERead:
		l.add(step{kind: read})
	case api.ELen:
		l.add(step{kind: length, at: l.where[e.Name]})
	case api.EUn:
		l.add(step{kind: one, op: e.Op})
	case api.EBin:
		l.add(step{kind: two, op: e.Op})
	}
}

// lazy lays out an operation whose right operand isn't looked at where the left one decides.
func (l *planner) lazy(e api.Expr) {
	decides := step{kind: ifZero}
	if e.Op == api.LOr {
		decides.kind = ifOne
	}
	l.expr(e.Args[0])
	out := l.add(decides)
	l.expr(e.Args[1])
	l.land(out)
}
