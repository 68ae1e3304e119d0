package vm_test

import (
	"math/big"
	"slices"

	"teasel/api"
	"teasel/inst"
	"teasel/vm"
)

// moment is all that is told of a machine.
type moment struct {
	status vm.Status
	calls  []vm.Call
	heap   []int64
}

// measure is the chapter's machine, run from its beginning by calls in calls: what goes wrong is asked of an instruction ahead of all else, then what stops it, and only then it is done.
type measure struct {
	img     api.Image
	input   []int64
	most    int // steps
	status  vm.Status
	open    []*frame // the innermost first
	cells   map[int64]int64
	top     int64
	moments []moment
}

type frame struct {
	fn    int
	at    int
	regs  map[byte]int64
	slots map[int64]int64
	args  []int64
	laid  []int64
}

// moments answers what is to be told ahead of the first step of a run, and behind each, at most so many.
func moments(img api.Image, input []int64, most int) []moment {
	o := &measure{img: img, input: input, most: most, cells: map[int64]int64{}}
	o.open = []*frame{newFrame(img.Main, nil)}
	o.tell()
	if n, is := o.perform(); is {
		o.status.End, o.status.Exit = api.Halt, n
		o.tell()
	}
	return o.moments
}

func newFrame(fn int, args []int64) *frame {
	return &frame{fn: fn, regs: map[byte]int64{}, slots: map[int64]int64{}, args: args}
}

func (o *measure) slotsOf(fn int) (int, bool) {
	n := o.img.Entries[fn].Slots
	return n, n >= 0 && n <= 60000
}

// tell adds a moment.
func (o *measure) tell() {
	m := moment{status: o.status}
	m.status.Outs = slices.Clone(o.status.Outs)
	if o.status.End != api.Halt {
		for i, f := range o.open {
			c := vm.Call{Fn: f.fn, At: f.at}
			if i == 0 {
				c.At = o.status.At
			}
			for r := range byte(16) {
				c.Regs = append(c.Regs, f.regs[r])
			}
			if n, is := o.slotsOf(f.fn); is {
				for s := range n {
					c.Slots = append(c.Slots, f.slots[int64(s)])
				}
			}
			m.calls = append(m.calls, c)
		}
	}
	for i := range o.top {
		m.heap = append(m.heap, o.cells[i])
	}
	o.moments = append(o.moments, m)
}

// perform runs the innermost call, and answers what it answers; false: the run ended in it.
func (o *measure) perform() (int64, bool) {
	f := o.open[0]
	f.at = o.img.Entries[f.fn].At
	for o.status.Steps < o.most {
		o.status.Steps++
		o.status.At = f.at
		if o.status.End = o.ends(f); o.status.End != 0 {
			o.tell()
			return 0, false
		}
		w := o.img.Words[f.at]
		switch w.Op {
		case api.MRet:
			return f.regs[w.A], true
		case api.MCall:
			o.open = append([]*frame{newFrame(int(w.Imm), f.laid)}, o.open...)
			f.laid = nil
			o.tell()
			n, is := o.perform()
			if !is {
				return 0, false
			}
			o.open = o.open[1:]
			f.regs[w.A] = n
			f.at++
		default:
			o.do(f, w)
		}
		o.tell()
	}
	return 0, false
}

// ends answers how the run ends by the instruction at which a call is, or 0.
func (o *measure) ends(f *frame) byte {
	if f.at < 0 || f.at >= len(o.img.Words) || o.wrong(f, o.img.Words[f.at]) {
		return api.Wrong
	}
	if _, is := o.slotsOf(o.img.Main); !is {
		return api.Wrong
	}
	w := o.img.Words[f.at]
	switch w.Op {
	case api.Div, api.Rem:
		if f.regs[w.C] == 0 {
			return api.TrapZero
		}
	case api.MLoad:
		return o.cellEnds(f.regs[w.B], f.regs[w.C])
	case api.MStore:
		return o.cellEnds(f.regs[w.A], f.regs[w.B])
	case api.MRead:
		if o.status.Read >= len(o.input) {
			return api.TrapIn
		}
	case api.MAlloc:
		if o.top+1+w.Imm > 4096 {
			return api.StopHeap
		}
	case api.MCall:
		if len(o.open) == 100 {
			return api.StopCall
		}
	}
	return 0
}

// wrong tells whether an instruction can't be done at all.
func (o *measure) wrong(f *frame, w api.Word) bool {
	if !inst.Form(w) {
		return true
	}
	a := f.regs[w.A]
	switch w.Op {
	case api.MIn, api.MOut:
		n, _ := o.slotsOf(f.fn)
		return w.Imm >= int64(n)
	case api.MArg:
		return len(f.laid) >= 6
	case api.MCall:
		if w.Imm >= int64(len(o.img.Entries)) {
			return true
		}
		_, is := o.slotsOf(int(w.Imm))
		return !is
	case api.MGive:
		return w.Imm >= int64(len(f.args))
	case api.MFree:
		return a < 0 || a > o.top
	case api.MLoad, api.MLen:
		return f.regs[w.B] < 1 || f.regs[w.B] > o.top
	case api.MStore:
		return a < 1 || a > o.top
	}
	return false
}

// cellEnds answers how the run ends by asking for a cell of an array that isn't wrong itself.
func (o *measure) cellEnds(array, place int64) byte {
	if place < 0 || place >= o.cells[array-1] {
		return api.TrapCell
	}
	if at := new(big.Int).Add(big.NewInt(array), big.NewInt(place)); at.Cmp(big.NewInt(o.top)) >= 0 {
		return api.Wrong
	}
	return 0
}

// do does an instruction by which nothing ends, and no call begins.
func (o *measure) do(f *frame, w api.Word) {
	f.at++
	switch w.Op {
	case api.MJump:
		f.at = int(w.Imm)
	case api.MZero:
		if f.regs[w.A] == 0 {
			f.at = int(w.Imm)
		}
	case api.MMark:
		o.status.Marks++
	case api.MPrint:
		o.status.Outs = append(o.status.Outs, f.regs[w.A])
	case api.MArg:
		f.laid = append(f.laid, f.regs[w.A])
	case api.MOut:
		f.slots[w.Imm] = f.regs[w.A]
	case api.MStore:
		o.cells[f.regs[w.A]+f.regs[w.B]] = f.regs[w.C]
	case api.MFree:
		o.top = f.regs[w.A]
	default:
		f.regs[w.A] = o.made(f, w)
	}
}

// made answers what an instruction puts into its first register.
func (o *measure) made(f *frame, w api.Word) int64 {
	b, c := f.regs[w.B], f.regs[w.C]
	switch w.Op {
	case api.MNum:
		return w.Imm
	case api.MMove:
		return b
	case api.MIn:
		return f.slots[w.Imm]
	case api.MGive:
		return f.args[w.Imm]
	case api.MRead:
		o.status.Read++
		return o.input[o.status.Read-1]
	case api.MLoad:
		return o.cells[b+c]
	case api.MLen:
		return o.cells[b-1]
	case api.MTop:
		return o.top
	case api.MAlloc:
		o.cells[o.top] = w.Imm
		for i := range w.Imm {
			o.cells[o.top+1+i] = 0
		}
		o.top += 1 + w.Imm
		return o.top - w.Imm
	}
	return reckoned(w.Op, b, c)
}

// reckoned answers what an operation makes of numbers without bounds, modulo 2^64.
func reckoned(op byte, b, c int64) int64 {
	x, y, n := big.NewInt(b), big.NewInt(c), new(big.Int)
	distance := uint(new(big.Int).And(y, big.NewInt(63)).Int64())
	switch op {
	case api.Add:
		n.Add(x, y)
	case api.Sub:
		n.Sub(x, y)
	case api.Mul:
		n.Mul(x, y)
	case api.Div:
		n.Quo(x, y)
	case api.Rem:
		n.Rem(x, y)
	case api.And:
		n.And(x, y)
	case api.Or:
		n.Or(x, y)
	case api.Xor:
		n.Xor(x, y)
	case api.Shl:
		n.Lsh(x, distance)
	case api.Shr:
		n.Rsh(x, distance)
	case api.Neg:
		n.Neg(x)
	case api.Not:
		n.Not(x)
	default:
		if holds(op, x.Cmp(y), x.Sign()) {
			n.SetInt64(1)
		}
	}
	n.And(n, new(big.Int).SetUint64(1<<64-1))
	return int64(n.Uint64())
}

// holds tells whether a comparison does, by how two numbers stand to each other, or by a number's sign.
func holds(op byte, order, sign int) bool {
	switch op {
	case api.Lt:
		return order < 0
	case api.Le:
		return order <= 0
	case api.Gt:
		return order > 0
	case api.Ge:
		return order >= 0
	case api.Eq:
		return order == 0
	case api.Ne:
		return order != 0
	}
	return sign == 0
}
