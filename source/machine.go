package source

import (
	"slices"

	"teasel/api"
)

// cells are an array's: it stands behind a pointer, as what is handed to a call is the same array.
type cells struct {
	list []int64
}

// value is what a variable has: a number, or an array.
type value struct {
	n     int64
	array *cells
}

// open is a call that is open: its function, the step that comes next, the statement that was entered last, its variables, and how many cells of the heap its arrays take.
type open struct {
	fn   int
	next int
	stmt int
	vars []value
	took int
}

// machine runs a plan.
type machine struct {
	plan
	input  []int64
	fuel   int
	calls  []open
	stack  []value
	inUse  int
	result Result
}

func newMachine(p api.Prog, info api.Info, input []int64, fuel int) *machine {
	m := &machine{plan: newPlan(p, info), input: input, fuel: fuel}
	m.call(slices.IndexFunc(p.Funcs, func(f api.Func) bool { return f.Name == "main" }))
	return m
}

func (m *machine) run() {
	for m.result.End == 0 {
		m.step(&m.calls[len(m.calls)-1])
	}
}

func (m *machine) push(n int64) {
	m.stack = append(m.stack, value{n: n})
}

// top answers the last of what is on the stack; it may be changed there.
func (m *machine) top() *value {
	return &m.stack[len(m.stack)-1]
}

func (m *machine) pop() value {
	v := *m.top()
	m.stack = m.stack[:len(m.stack)-1]
	return v
}

func (m *machine) trap(end byte) {
	m.result.End = end
	m.result.Stmt = m.calls[len(m.calls)-1].stmt
}

// step takes the next step of the innermost call.
func (m *machine) step(c *open) {
	s := m.steps[c.next]
	c.next++
	switch s.kind {
	case enter:
		m.enter(c, s.at)
	case number:
		m.push(s.n)
	case variable:
		m.stack = append(m.stack, c.vars[s.at])
	case cell:
		if x := m.find(c.vars[s.at].array, m.pop().n); x != nil {
			m.push(*x)
		}
	case length:
		m.push(int64(len(c.vars[s.at].array.list)))
	case one:
		m.top().n, _ = Value(s.op, m.top().n, 0)
	case two:
		m.two(s.op)
	case call:
		m.call(s.at)
	case read:
		m.read()
	case assign:
		c.vars[s.at] = m.pop()
	case put:
		n := m.pop().n
		if x := m.find(c.vars[s.at].array, m.pop().n); x != nil {
			*x = n
		}
	case array:
		m.array(c, s.at, int(s.n))
	case show:
		m.result.Outs = append(m.result.Outs, m.pop().n)
	case drop:
		m.pop()
	case answer:
		m.answer(c)
	default:
		m.jump(c, s)
	}
}

// enter begins a statement, or stops the run there: what is open is then as it is at that entry.
func (m *machine) enter(c *open, stmt int) {
	c.stmt = stmt
	if m.result.Entries == m.fuel {
		m.result.End = api.StopFuel
		return
	}
	m.result.Entries++
}

// jump does the steps that lead elsewhere.
func (m *machine) jump(c *open, s step) {
	decides := true
	switch s.kind {
	case unless:
		decides = m.pop().n == 0
	case ifZero, ifOne:
		decides = (m.top().n == 0) == (s.kind == ifZero)
		if !decides {
			m.pop()
		}
	}
	if decides {
		c.next = s.at
	}
}

func (m *machine) two(op byte) {
	b := m.pop().n
	n, trap := Value(op, m.top().n, b)
	m.top().n = n
	if trap != 0 {
		m.trap(trap)
	}
}

func (m *machine) read() {
	if len(m.input) == 0 {
		m.trap(api.TrapIn)
		return
	}
	m.push(m.input[0])
	m.input = m.input[1:]
}

// find answers a cell; none, if there is no such one: then the run has ended.
func (m *machine) find(a *cells, place int64) *int64 {
	if place < 0 || place >= int64(len(a.list)) {
		m.trap(api.TrapCell)
		return nil
	}
	return &a.list[place]
}

// array makes a new one. It takes a cell more, for its length.
func (m *machine) array(c *open, at, n int) {
	c.vars[at] = value{array: &cells{list: make([]int64, n)}}
	c.took += n + 1
	m.inUse += n + 1
	m.result.Cells = max(m.result.Cells, m.inUse)
}

// call opens a call; its arguments are on the stack.
func (m *machine) call(fn int) {
	c := open{fn: fn, next: m.begins[fn], vars: make([]value, m.vars[fn])}
	first := len(m.stack) - m.params[fn]
	copy(c.vars, m.stack[first:])
	m.stack = m.stack[:first]
	m.calls = append(m.calls, c)
	m.result.Calls = max(m.result.Calls, len(m.calls))
}

// answer ends the innermost call. What it answers is on the stack already.
func (m *machine) answer(c *open) {
	m.inUse -= c.took
	m.calls = m.calls[:len(m.calls)-1]
	if len(m.calls) == 0 {
		m.result.End = api.Halt
		m.result.Exit = m.pop().n
	}
}

// frames answers the calls that are open, the innermost first, with the variables that are sure.
func (m *machine) frames(points []api.Point) []api.Frame {
	var l []api.Frame
	for _, c := range slices.Backward(m.calls) {
		f := api.Frame{Fn: c.fn, Stmt: c.stmt}
		for _, n := range points[c.stmt].Sure {
			f.Vars = append(f.Vars, shown(n, c.vars[n]))
		}
		l = append(l, f)
	}
	return l
}

func shown(n int, v value) api.Shown {
	s := api.Shown{Var: n, Has: true, N: v.n}
	if v.array != nil {
		s.List = slices.Clone(v.array.list)
	}
	return s
}
