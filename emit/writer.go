package emit

import "teasel/api"

// writer writes a function's instructions. Where one goes to an address that isn't known yet, it names a label: the number of a block, or a greater one.
type writer struct {
	*builder
	*fun
	*desk
	ferry  *ferry
	passed []bool // of each block whether nothing is done in it
	starts []int  // of each label its address
	jumps  []int  // the addresses of instructions that name a label
}

func newWriter(m *builder, fn, old int) *writer {
	w := &writer{builder: m, fun: newFun(m.code, fn, m.all)}
	w.desk = newDesk(w.Vals)
	w.starts = make([]int, len(w.Blocks))
	if m.ferries {
		w.ferry = newFerry(w.fun, old)
	}
	if w.ferry != nil {
		w.moor()
	}
	for b := range w.Blocks {
		w.passed = append(w.passed, w.isPassed(b))
	}
	return w
}

func (w *writer) label() int {
	w.starts = append(w.starts, 0)
	return len(w.starts) - 1
}

// here lets a label be the address of the next instruction.
func (w *writer) here(label int) {
	w.starts[label] = len(w.words)
}

// jump adds an instruction that names a label.
func (w *writer) jump(op, a byte, label int) {
	w.jumps = append(w.jumps, len(w.words))
	w.add(api.Word{Op: op, A: a, Imm: int64(label)})
}

// set adds an instruction that puts a number into a register.
func (w *writer) set(r int, n int64) {
	w.add(api.Word{Op: api.MNum, A: byte(r), Imm: n})
}

func (w *writer) function() {
	order := w.order()
	for i, b := range order {
		next := nothing
		if i+1 < len(order) {
			next = order[i+1]
		}
		w.block(b, next)
		if w.isFull() {
			return
		}
	}
	if w.ferry != nil {
		w.row()
	}
	for _, at := range w.jumps {
		w.words[at].Imm = int64(w.starts[w.words[at].Imm])
	}
}

// order answers the blocks in the order in which they are written: behind each one that to which it goes on, if it wasn't written yet; of a branch's ways the one where the value isn't 0.
func (w *writer) order() []int {
	var l []int
	had := make([]bool, len(w.Blocks))
	for work := []int{0}; len(work) > 0; {
		b := work[len(work)-1]
		work = work[:len(work)-1]
		for !had[b] {
			had[b] = true
			l = append(l, b)
			if x := w.Blocks[b]; x.End == api.Branch {
				work = append(work, w.target(x.Else))
			}
			if len(w.ways[b]) > 0 {
				b = w.target(w.Blocks[b].To)
			}
		}
	}
	return l
}

// target answers to which block one comes in the end by going on to one. Blocks may go round in which nothing is ever done.
func (w *writer) target(b int) int {
	for range w.Blocks {
		if !w.passed[b] {
			break
		}
		b = w.Blocks[b].To
	}
	return b
}
