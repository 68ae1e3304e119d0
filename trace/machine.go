package trace

import (
	"teasel/api"
	"teasel/cells"
	"teasel/source"
)

// call is one that is open: its function, its block, and which of the instructions there comes next.
type call struct {
	fn    int
	block int
	next  int
}

// waiting is an open call other than the innermost one, and where its values and variables begin.
type waiting struct {
	call
	values int
	vars   int
}

// machine runs code: now is the innermost call, outer are the others. Calls aren't calls within calls, as so many may be open.
type machine struct {
	code     api.Code
	routines []*routine
	input    []int64
	fuel     int
	now      call
	outer    []waiting
	values   stack
	vars     stack
	taken    []int64
	heap     cells.Heap
	result   Result
}

func newMachine(c api.Code, input []int64, fuel int) *machine {
	m := &machine{code: c, routines: make([]*routine, len(c.Funs)), input: input, fuel: fuel}
	m.now.fn = c.Main
	m.result.Calls = 1
	return m
}

// runTo stops where so many marks were done, or at the end.
func (m *machine) runTo(marks int) {
	for m.result.End == 0 && m.result.Marks != marks {
		m.step()
	}
}

func (m *machine) step() {
	if m.result.Steps == m.fuel {
		m.result.End = api.StopFuel
		return
	}
	m.result.Steps++
	b := m.block(m.now)
	if m.now.next == len(b.Insts) {
		m.leave(b)
		return
	}
	x := &b.Insts[m.now.next]
	m.now.next++
	m.do(x)
}

// block answers the one at which a call is.
func (m *machine) block(c call) *block {
	return &m.routine(c).blocks[c.block]
}

// routine answers that of a call's function, which is made when it is first asked for.
func (m *machine) routine(c call) *routine {
	if m.routines[c.fn] == nil {
		m.routines[c.fn] = newRoutine(m.code.Funs[c.fn])
	}
	return m.routines[c.fn]
}

// leave does a block's end.
func (m *machine) leave(b *block) {
	switch b.End {
	case api.GoTo:
		m.goOn(b.ways[0])
	case api.Branch:
		if m.values.get(b.Arg) != 0 {
			m.goOn(b.ways[0])
		} else {
			m.goOn(b.ways[1])
		}
	case api.RetVal:
		m.answer(m.values.get(b.Arg))
	case api.RetNone:
		m.answer(0)
	}
}

// goOn comes to a block. What its phis take is taken ahead of them all, as one may take what another one has.
func (m *machine) goOn(w way) {
	m.now.block, m.now.next = w.to, 0
	b := m.block(m.now)
	m.taken = m.taken[:0]
	for _, x := range b.Phis {
		m.taken = append(m.taken, m.values.get(x.Args[w.arg]))
	}
	for i, x := range b.Phis {
		m.values.set(x.Dst, m.taken[i])
	}
}

// answer ends the innermost call.
func (m *machine) answer(n int64) {
	last := len(m.outer) - 1
	if last < 0 {
		m.result.End, m.result.Exit = api.Halt, n
		return
	}
	w := m.outer[last]
	m.outer = m.outer[:last]
	m.values.leave(w.values)
	m.vars.leave(w.vars)
	m.now = w.call
	if x := m.inst(m.now); x.Dst != -1 {
		m.values.set(x.Dst, n)
	}
}

// inst answers the instruction that was done last in a call.
func (m *machine) inst(c call) *api.Inst {
	return &m.block(c).Insts[c.next-1]
}

// call opens one, whose first values are its arguments.
func (m *machine) call(x *api.Inst) {
	m.taken = m.taken[:0]
	for _, a := range x.Args {
		m.taken = append(m.taken, m.values.get(a))
	}
	m.outer = append(m.outer, waiting{call: m.now, values: m.values.open(), vars: m.vars.open()})
	m.now = call{fn: int(x.Imm)}
	m.result.Calls = max(m.result.Calls, len(m.outer)+1)
	for i, n := range m.taken {
		m.values.set(i, n)
	}
}

func (m *machine) do(x *api.Inst) {
	switch x.Op {
	case api.ICall:
		m.call(x)
	case api.IMark:
		m.result.Marks++
	case api.IPrint:
		m.result.Outs = append(m.result.Outs, m.values.get(x.Args[0]))
	case api.ISet:
		m.vars.set(int(x.Imm), m.values.get(x.Args[0]))
	default:
		n, end := m.value(x)
		if end != 0 {
			m.stop(end, x)
		} else if x.Dst != -1 {
			m.values.set(x.Dst, n)
		}
	}
}

// stop ends the run at an instruction.
func (m *machine) stop(end byte, x *api.Inst) {
	m.result.End = end
	switch end {
	case api.TrapZero, api.TrapCell, api.TrapIn:
		m.result.Stop = x.Site
	}
}

// value answers what an instruction makes, and 0; or how the run ends by it.
func (m *machine) value(x *api.Inst) (int64, byte) {
	switch x.Op {
	case api.IConst:
		return x.Imm, 0
	case api.ICopy:
		return m.values.get(x.Args[0]), 0
	case api.IParam:
		return m.values.get(int(x.Imm)), 0
	case api.IGet:
		return m.vars.get(int(x.Imm)), 0
	case api.IRead:
		return m.read()
	case api.ILoad, api.IStore, api.ILen, api.IAlloc, api.ITop, api.IFree:
		return m.memory(x)
	}
	return m.reckon(x)
}

// memory asks the heap.
func (m *machine) memory(x *api.Inst) (int64, byte) {
	var args [3]int64
	for i, a := range x.Args {
		args[i] = m.values.get(a)
	}
	switch x.Op {
	case api.ILoad:
		return m.heap.Load(args[0], args[1])
	case api.IStore:
		return 0, m.heap.Store(args[0], args[1], args[2])
	case api.ILen:
		return m.heap.Length(args[0])
	case api.IAlloc:
		return m.heap.Alloc(x.Imm)
	case api.ITop:
		return m.heap.Top(), 0
	}
	return 0, m.heap.Free(args[0])
}

// reckon answers what an operation of one or two values answers.
func (m *machine) reckon(x *api.Inst) (int64, byte) {
	b := int64(0)
	if len(x.Args) == 2 {
		b = m.values.get(x.Args[1])
	}
	return source.Value(x.Op, m.values.get(x.Args[0]), b)
}

func (m *machine) read() (int64, byte) {
	if len(m.input) == 0 {
		return 0, api.TrapIn
	}
	n := m.input[0]
	m.input = m.input[1:]
	return n, 0
}
