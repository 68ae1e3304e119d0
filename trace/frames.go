package trace

import (
	"cmp"
	"slices"

	"teasel/api"
)

// frames answers those of all calls that are open, the innermost first. It leaves them one by one, as no step comes behind it.
func (m *machine) frames() []api.Frame {
	l := m.framesOf(nil)
	for _, w := range slices.Backward(m.outer) {
		m.values.leave(w.values)
		m.vars.leave(w.vars)
		m.now = w.call
		l = m.framesOf(l)
	}
	return l
}

// framesOf adds to a list the frames of the stop at which the innermost call is, with what is known there.
func (m *machine) framesOf(l []api.Frame) []api.Frame {
	x := m.inst(m.now)
	first := len(l)
	for _, s := range m.code.Stops[x.Site] {
		l = append(l, api.Frame{Fn: s.Fn, Stmt: s.Stmt})
	}
	for _, d := range x.Dbg {
		f := &l[first+d.Depth]
		f.Vars = append(f.Vars, api.Shown{Var: d.Var, Has: true, N: m.known(d)})
	}
	for _, f := range l[first:] {
		slices.SortFunc(f.Vars, func(a, b api.Shown) int { return cmp.Compare(a.Var, b.Var) })
	}
	return l
}

// known answers what a variable of the innermost call has, by what is known of it.
func (m *machine) known(d api.Dbg) int64 {
	r := m.routine(m.now)
	switch d.Kind {
	case api.DVal:
		return d.A*m.values.get(r.cells[d.Arg]) + d.B
	case api.DVar:
		return m.vars.get(r.variable(d.Arg))
	}
	return d.B
}
