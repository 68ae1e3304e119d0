package parts

import "teasel/api"

// WithVariables are codes that are right, but not plain, each by its name.
func WithVariables() map[string]api.Code {
	l := map[string]api.Code{
		"a mark that knows a variable": Main(Ends(Mark(api.Dbg{Kind: api.DVar}))),
		"a variable that is got":       Main(Ends(Inst(api.IGet, 0))),
		"a variable that is set":       Main(Ends(Number(0, 1), Inst(api.ISet, -1, 0))),
		"a call that knows a variable": Main(Ends(At(0, Call(-1, 0), api.Dbg{Kind: api.DVar}))),
		"a variable far behind":        Program(Fun(0, Ends()), Fun(0, Goes(1), Ends(Inst(api.IGet, 0)))),
	}
	for _, c := range l {
		c.Funs[len(c.Funs)-1].Vars = 1
	}
	return l
}

// Wrong are codes that aren't right, each by its name.
func Wrong() map[string]api.Code {
	return map[string]api.Code{
		"nothing":                          {},
		"too long code":                    tooLong(),
		"no Main":                          {Funs: []api.Fun{Fun(0, Ends())}, Main: 1},
		"a Main with a parameter":          Program(Fun(1, Ends())),
		"a value that isn't made":          Main(Ends(Show(3))),
		"a value out of bounds":            Main(Ends(Inst(api.Neg, 1, -4))),
		"a block that isn't reached":       Main(Ends(), Ends()),
		"a branch with one way":            Main(Branch(0, 1, 1, Number(0, 1)), Ends()),
		"a way back to the first block":    Main(Goes(0)),
		"a way to nowhere":                 Main(Goes(7)),
		"a phi without an Arg":             Main(Goes(1), Behind(Ends(), Phi(1))),
		"an Op that there isn't":           Main(Ends(Inst(99, 1))),
		"a value that is made twice":       Main(Ends(Number(0, 1), Number(0, 1))),
		"a function without blocks":        Program(Fun(0)),
		"a call of no function":            Main(Ends(Call(-1, 4))),
		"known by a value that isn't made": Main(Ends(Mark(IsValue(0, 3, 1, 0)))),
	}
}

// tooLong is code with one instruction more than there may be.
func tooLong() api.Code {
	l := make([]api.Inst, api.MaxCode+1)
	for i := range l {
		l[i] = Number(i, 1)
	}
	c := Main(Ends(l...))
	c.Funs[0].Vals = len(l)
	return c
}
