package emit

import (
	"slices"

	"teasel/api"
	"teasel/calls"
	"teasel/code"
	"teasel/dead"
	"teasel/fold"
	"teasel/motion"
	"teasel/number"
	"teasel/reduce"
)

// pass is one from plain code to plain code, that is done if its bit is set.
type pass struct {
	bit byte
	run func(c api.Code) (api.Code, api.Errno)
}

// passes are those that there are, in the order in which they are done. What nobody needs goes ahead of reduce, as no sum need stand for it, and behind it, as nobody may need a counter any more of which there are sums.
func passes() []pass {
	return []pass{
		{1, calls.Run},
		{2, fold.Run},
		{4, number.Run},
		{8, motion.Run},
		{4, number.Run},
		{32, dead.Run},
		{16, reduce.Run},
		{4, number.Run},
		{32, dead.Run},
	}
}

// callsLast are the same, but that calls are looked at when nothing is done ahead of loops any more.
func callsLast() []pass {
	l := passes()
	return slices.Concat(l[1:], l[:3])
}

// passed answers what code becomes by those of some passes whose bits are set. What would become too long by one of them stays as it is.
func passed(c api.Code, opt byte, l []pass) api.Code {
	c = code.Copy(c)
	for _, p := range l {
		if opt&p.bit == 0 {
			continue
		}
		if d, e := p.run(c); e == api.OK {
			c = d
		}
	}
	return c
}

// longest answers how many instructions the longest block of code has.
func longest(c api.Code) int {
	n := 0
	for _, f := range c.Funs {
		for _, b := range f.Blocks {
			n = max(n, len(b.Insts))
		}
	}
	return n
}
