package vm

import (
	"teasel/api"
	"teasel/source"
)

// step takes the next instruction of the innermost call, and does it.
func (m *Machine) step() {
	m.steps.Add(1)
	s := &m.now
	c := &s.calls[len(s.calls)-1]
	s.at = c.next
	w, is := m.word(c.next)
	if !is {
		s.end = api.Wrong
		return
	}
	c.next++
	s.end = m.do(c, w)
}

// do does an instruction of the innermost call, and answers how the machine ends by it, or 0.
func (m *Machine) do(c *call, w api.Word) byte {
	switch w.Op {
	case api.MMark:
		m.now.marks++
	case api.MJump:
		c.next = int(w.Imm)
	case api.MZero:
		if c.regs[w.A] == 0 {
			c.next = int(w.Imm)
		}
	case api.MArg:
		return c.lay(c.regs[w.A])
	case api.MCall:
		return m.call(c, int(w.Imm))
	case api.MRet:
		return m.answer(c.regs[w.A])
	case api.MPrint:
		m.now.outs = append(m.now.outs, c.regs[w.A])
	case api.MOut:
		return m.out(c, int(w.Imm), c.regs[w.A])
	case api.MStore:
		return m.now.heap.Store(c.regs[w.A], c.regs[w.B], c.regs[w.C])
	case api.MFree:
		return m.now.heap.Free(c.regs[w.A])
	default:
		n, end := m.value(c, w)
		if end != 0 {
			return end
		}
		c.regs[w.A] = n
	}
	return 0
}

// value answers what an instruction puts into its first register, and 0; or how the machine ends by it.
func (m *Machine) value(c *call, w api.Word) (int64, byte) {
	b, d := c.regs[w.B], c.regs[w.C]
	switch w.Op {
	case api.MNum:
		return w.Imm, 0
	case api.MMove:
		return b, 0
	case api.MIn:
		return m.in(c, int(w.Imm))
	case api.MGive:
		return c.given(int(w.Imm))
	case api.MRead:
		return m.read()
	case api.MLoad:
		return m.now.heap.Load(b, d)
	case api.MLen:
		return m.now.heap.Length(b)
	case api.MAlloc:
		return m.now.heap.Alloc(w.Imm)
	case api.MTop:
		return m.now.heap.Top(), 0
	}
	return source.Value(w.Op, b, d)
}

// has tells whether a call has a slot.
func (m *Machine) has(c *call, slot int) bool {
	n, _ := m.room(c.fn)
	return slot < n
}

func (m *Machine) in(c *call, slot int) (int64, byte) {
	if !m.has(c, slot) {
		return 0, api.Wrong
	}
	return c.slot(slot), 0
}

func (m *Machine) out(c *call, slot int, x int64) byte {
	if !m.has(c, slot) {
		return api.Wrong
	}
	c.setSlot(slot, x)
	return 0
}

func (m *Machine) read() (int64, byte) {
	s := &m.now
	if s.read == len(m.input) {
		return 0, api.TrapIn
	}
	n := m.input[s.read]
	s.read++
	return n, 0
}

// call opens one with what c has laid ready.
func (m *Machine) call(c *call, fn int) byte {
	if _, is := m.room(fn); !is {
		return api.Wrong
	}
	s := &m.now
	if len(s.calls) == api.MaxCalls {
		return api.StopCall
	}
	args := c.laid
	c.laid = nil
	s.calls = append(s.calls, call{fn: fn, next: m.entries[fn].At, args: args})
	return 0
}

// answer ends the innermost call; the one that waits for it has the answer where its MCall says.
func (m *Machine) answer(n int64) byte {
	s := &m.now
	last := len(s.calls) - 1
	s.calls = s.calls[:last]
	if last == 0 {
		s.exit = n
		return api.Halt
	}
	c := &s.calls[last-1]
	c.regs[m.words[c.called()].A] = n
	return 0
}
