package samples

import "teasel/api"

// Rows answers right code without variables, whose first function is a row of values, most of which can be told by others, or as numbers; it tells them at marks and calls, and prints few.
func Rows(seed uint64) api.Code {
	r := rower{dice: dice{state: seed}}
	var l []api.Inst
	for len(l) < 40 {
		l = append(l, r.inst())
	}
	called := []api.Inst{{Op: api.IMark, Dst: -1, Site: 1}}
	return api.Code{
		Funs:  []api.Fun{{Vals: r.made, Blocks: []api.Block{{Insts: l, End: api.RetNone}}}, {Blocks: []api.Block{{Insts: called, End: api.RetNone}}}},
		Stops: [][]api.Spot{{{Fn: 0, Stmt: 1}, {Fn: 2, Stmt: 2}}, {{Fn: 1, Stmt: 3}}},
	}
}

// rower writes a row, in which so many values are made already.
type rower struct {
	dice
	made int
}

func (r *rower) inst() api.Inst {
	switch k := r.below(12); {
	case r.made == 0 || k == 0 && r.once(3):
		return r.maker(api.IRead, 0)
	case k < 3:
		x := r.maker(api.IConst, 0)
		x.Imm = pickOf(&r.dice, -4, -3, -2, -1, 0, 1, 2, 3, 4, -1<<63, 1<<63-1, 1<<32, 64)
		return x
	case k == 3:
		return r.teller()
	case k == 4 && r.once(3):
		return api.Inst{Op: api.IPrint, Dst: -1, Args: []int{r.below(r.made)}}
	}
	switch op := byte(pickOf(&r.dice, api.Add, api.Add, api.Sub, api.Sub, api.Mul, api.Shl, api.Neg, api.Not, api.ICopy, api.Xor)); op {
	case api.Neg, api.Not, api.ICopy:
		return r.maker(op, 1)
	default:
		return r.maker(op, 2)
	}
}

// maker answers an instruction that makes the next value of so many others.
func (r *rower) maker(op byte, args int) api.Inst {
	x := api.Inst{Op: op, Dst: r.made}
	for range args {
		x.Args = append(x.Args, r.below(r.made))
	}
	r.made++
	return x
}

// teller answers a mark, or a call, that tells what was made last, and others.
func (r *rower) teller() api.Inst {
	x := api.Inst{Op: byte(pickOf(&r.dice, api.IMark, api.IMark, api.ICall)), Dst: -1}
	if x.Op == api.ICall {
		x.Imm = 1
	}
	known := func(depth, variable, value int, a, b int64) {
		x.Dbg = append(x.Dbg, api.Dbg{Depth: depth, Var: variable, Kind: api.DVal, Arg: value, A: a, B: b})
	}
	known(0, 0, r.below(r.made), int64(r.below(5)-2), pickOf(&r.dice, 0, 7, -9, 1<<63-1))
	known(1, 1, r.below(r.made), -1<<63, 1)
	known(0, 1, r.below(r.made), 1, 0)
	x.Dbg = append(x.Dbg, api.Dbg{Depth: 1, Var: 3, Kind: api.DNum, B: int64(r.below(9))})
	known(0, 2, r.made-1, 1, 0)
	return x
}
