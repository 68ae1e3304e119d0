package emit

import (
	"teasel/api"
	"teasel/code"
)

// block writes a block. Next is the one that is written behind it, to which it need not jump.
func (w *writer) block(b, next int) {
	x := w.Blocks[b]
	w.here(b)
	w.open(x, w.ends[b], w.all)
	if from := w.from[b]; len(from) == 1 {
		w.carry(from[0], b)
	}
	for _, v := range w.begins[b] {
		if seat := w.seats[v]; seat < firstSlot {
			w.regs[seat].value = v
		}
		w.meet(v)
	}
	for at, y := range x.Insts {
		w.at = at
		w.turn++
		w.inst(y)
		if y.Dst != nothing {
			w.meet(y.Dst)
		}
	}
	w.at = len(x.Insts)
	w.turn++
	w.end(b, next)
}

func (w *writer) inst(x api.Inst) {
	switch x.Op {
	case api.IMark:
		w.add(api.Word{Op: api.MMark, Imm: int64(w.known(x))})
	case api.ICall:
		w.call(x)
	case api.IConst:
		w.constant(x)
	default:
		w.plain(x)
	}
}

// plain writes an instruction that is one of the machine's, too: that names first what is made, then what that is made from.
func (w *writer) plain(x api.Inst) {
	var r []byte
	for _, v := range x.Args {
		r = append(r, w.use(v))
	}
	if x.Dst != nothing {
		r = append([]byte{w.give(x.Dst)}, r...)
	}
	if x.Op == api.ICopy && r[0] == r[1] {
		return
	}
	if code.Traps(x.Op) {
		w.trap(x.Site)
	}
	r = append(r, 0, 0)
	y := api.Word{Op: machineOp(x.Op), A: r[0], B: r[1], C: r[2]}
	switch x.Op {
	case api.IConst, api.IParam, api.IAlloc:
		y.Imm = x.Imm
	}
	w.add(y)
}

// machineOp answers the machine's Op for one of the code's; operations have the same.
func machineOp(op byte) byte {
	switch op {
	case api.IConst:
		return api.MNum
	case api.ICopy:
		return api.MMove
	case api.IParam:
		return api.MGive
	case api.ILoad:
		return api.MLoad
	case api.IStore:
		return api.MStore
	case api.ILen:
		return api.MLen
	case api.IAlloc:
		return api.MAlloc
	case api.ITop:
		return api.MTop
	case api.IFree:
		return api.MFree
	case api.IPrint:
		return api.MPrint
	case api.IRead:
		return api.MRead
	}
	return op
}

// constant writes an instruction that makes a number, if that must stand in its register for what is behind the block. Else it is made where it is asked for.
func (w *writer) constant(x api.Inst) {
	if _, anew := w.numbers[x.Dst]; !anew {
		w.plain(x)
		return
	}
	seat := w.seats[x.Dst]
	if seat >= firstSlot || !w.asked[x.Dst] || w.last[x.Dst] < w.behind {
		return
	}
	if had := w.regs[seat]; had.isNumber && had.number == x.Imm {
		w.regs[seat].value = x.Dst
		return
	}
	w.plain(x)
	w.regs[seat].isNumber, w.regs[seat].number = true, x.Imm
}

// call writes a call. What is known there holds until it ends: the registers and slots stay as they are.
func (w *writer) call(x api.Inst) {
	for _, v := range x.Args {
		w.add(api.Word{Op: api.MArg, A: w.use(v)})
		w.turn++
	}
	mark := w.known(x)
	var r byte
	if x.Dst == nothing {
		r = byte(w.take(w.at + 1))
	} else {
		r = w.give(x.Dst)
	}
	w.site(mark)
	w.add(api.Word{Op: api.MCall, A: r, Imm: x.Imm})
}

// end writes a block's end.
func (w *writer) end(b, next int) {
	x := w.Blocks[b]
	switch x.End {
	case api.RetVal:
		w.add(api.Word{Op: api.MRet, A: w.use(x.Arg)})
	case api.RetNone:
		w.add(api.Word{Op: api.MRet, A: w.number(0)})
	case api.GoTo:
		w.settle()
		w.goOn(b, next)
	case api.Branch:
		w.branch(x, next)
	}
}

// goOn writes the end of a block that goes on to one.
func (w *writer) goOn(b, next int) {
	to := w.Blocks[b].To
	if w.embark(b, to) {
		return
	}
	if len(w.from[to]) > 1 {
		w.carry(b, to)
	}
	if to = w.target(to); to != next {
		w.jump(api.MJump, 0, to)
	}
}

func (w *writer) branch(x api.Block, next int) {
	to, other := w.target(x.To), w.target(x.Else)
	if to != other {
		r := w.use(x.Arg)
		w.settle()
		w.jump(api.MZero, r, other)
	} else {
		w.settle()
	}
	if to != next {
		w.jump(api.MJump, 0, to)
	}
}
