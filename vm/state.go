package vm

import (
	"teasel/api"
	"teasel/cells"
)

// state is what becomes of a machine, but how many steps it took.
type state struct {
	end   byte
	exit  int64
	at    int // the address of the last step
	read  int
	marks int
	outs  []int64
	heap  cells.Heap
	calls []call // the innermost one is the last
}

// call is one that is open.
type call struct {
	fn    int
	next  int // the address of the next instruction
	regs  [api.Regs]int64
	slots []int64 // as far as they were written to: a function may have far more than it needs
	args  []int64
	laid  []int64 // ready for a call
}

// called answers the address of the MCall at which a call waits.
func (c *call) called() int {
	return c.next - 1
}

// slot answers what stands in a slot that there is.
func (c *call) slot(n int) int64 {
	if n < len(c.slots) {
		return c.slots[n]
	}
	return 0
}

// setSlot puts a number into a slot that there is.
func (c *call) setSlot(n int, x int64) {
	if n >= len(c.slots) {
		c.slots = append(c.slots, make([]int64, n+1-len(c.slots))...)
	}
	c.slots[n] = x
}

// lay lays an argument ready.
func (c *call) lay(x int64) byte {
	if len(c.laid) == api.MaxParams {
		return api.Wrong
	}
	c.laid = append(c.laid, x)
	return 0
}

// given answers an argument, and 0; or how the machine ends by that there is none.
func (c *call) given(n int) (int64, byte) {
	if n >= len(c.args) {
		return 0, api.Wrong
	}
	return c.args[n], 0
}
