package vm

import "teasel/api"

// fits tells whether what was read is a machine that can go on with this image and this input.
func (m *Machine) fits() bool {
	return m.counted() && m.now.heap.Top() <= api.MaxHeap && m.ended() && m.nested()
}

// mostSteps is more than any machine ever takes, and so few that more can be counted.
const mostSteps = 1 << 62

// counted tells whether there were steps enough: none prints, reads and marks at once.
func (m *Machine) counted() bool {
	s := &m.now
	steps := m.steps.Load()
	if steps < 0 || steps > mostSteps || s.read < 0 || s.read > len(m.input) || s.marks < 0 {
		return false
	}
	return steps-int64(len(s.outs))-int64(s.read) >= int64(s.marks)
}

// ended tells whether there is such an end, if it is one, and whether calls are open as they are then.
func (m *Machine) ended() bool {
	s := &m.now
	switch s.end {
	case api.Halt:
		return len(s.calls) == 0
	case 0, api.TrapZero, api.TrapCell, api.TrapIn, api.StopCall, api.StopHeap, api.Wrong:
		return len(s.calls) >= 1 && len(s.calls) <= api.MaxCalls && s.exit == 0
	}
	return false
}

// nested tells whether the outermost call is Main's, and each other one that for which the one around it waits.
func (m *Machine) nested() bool {
	l := m.now.calls
	for i := range l {
		if i == 0 && (l[i].fn != m.main || len(l[i].args) > 0) || !m.holds(&l[i]) {
			return false
		}
		if i+1 < len(l) && !m.waits(&l[i], l[i+1].fn) {
			return false
		}
	}
	return true
}

// holds tells whether a call has no more than it may have.
func (m *Machine) holds(c *call) bool {
	n, _ := m.room(c.fn)
	return len(c.slots) <= n && len(c.args) <= api.MaxParams && len(c.laid) <= api.MaxParams
}

// waits tells whether a call waits for one of a function: it can be called, and what was laid ready is its own.
func (m *Machine) waits(c *call, fn int) bool {
	w, is := m.word(c.called())
	_, can := m.room(fn)
	return is && w.Op == api.MCall && w.Imm == int64(fn) && can && len(c.laid) == 0
}
