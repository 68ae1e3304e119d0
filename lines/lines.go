// Package lines tells values that are gone by others that stay: each as a number, or as so many times a value, and a number. So a layer that lets values go can still tell what is known of variables.
package lines

import (
	"teasel/api"
	"teasel/code"
)

// Lines finds the lines of a function's values.
type Lines struct {
	stays  func(value int) bool
	makers map[int]api.Inst // of each value that a pure instruction makes that one
	found  map[int]finding  // of each value that is gone, and was asked for
}

// finding is a value's line, if there is one.
type finding struct {
	line
	is bool
}

// New makes those of a function of plain code, whose values stay or are gone as stays tells.
func New(f api.Fun, stays func(value int) bool) *Lines {
	l := &Lines{stays: stays, makers: map[int]api.Inst{}, found: map[int]finding{}}
	for _, b := range f.Blocks {
		for _, x := range b.Insts {
			if code.Pure(x.Op) {
				l.makers[x.Dst] = x
			}
		}
	}
	return l
}

// Known answers what is known of a variable by values that stay, if it can be told so. What names such a value already is left as it is.
func (l *Lines) Known(d api.Dbg) (api.Dbg, bool) {
	if d.Kind == api.DVal && l.stays(d.Arg) {
		return d, true
	}
	var n line
	if d.Kind == api.DVal && d.A != 0 {
		k, is := l.of(d.Arg)
		if !is {
			return api.Dbg{}, false
		}
		n = k.times(d.A)
	}
	out := api.Dbg{Depth: d.Depth, Var: d.Var, Kind: api.DNum, B: n.b + d.B}
	if n.a != 0 {
		out.Kind, out.Arg, out.A = api.DVal, n.value, n.a
	}
	return out, true
}

// Tells tells whether a value stays, or can be told by one that does, or as a number.
func (l *Lines) Tells(value int) bool {
	_, is := l.of(value)
	return is
}

// of answers the line of a value by one that stays, if it has one.
func (l *Lines) of(value int) (line, bool) {
	x, pure := l.makers[value]
	switch {
	case pure && x.Op == api.IConst:
		return line{b: x.Imm}, true
	case l.stays(value):
		return line{value: value, a: 1}, true
	case !pure:
		return line{}, false
	}
	k, had := l.found[value]
	if !had {
		k.line, k.is = l.made(x)
		l.found[value] = k
	}
	return k.line, k.is
}

// made answers the line of what an instruction makes, by those of what it is made from.
func (l *Lines) made(x api.Inst) (line, bool) {
	var args [2]line
	for i, v := range x.Args {
		k, is := l.of(v)
		if !is {
			return line{}, false
		}
		args[i] = k
	}
	return reckoned(x.Op, args[0], args[1])
}
