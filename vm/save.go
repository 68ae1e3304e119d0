package vm

import (
	"bytes"

	"teasel/api"
	"teasel/packed"
)

// Save answers all that the machine is, beside its image and its input, as bytes.
func (m *Machine) Save() []byte {
	if m == nil {
		return nil
	}
	var to writer
	if to.walk().machine(m) != nil { // a writer has no faults
		return nil
	}
	return to.bytes
}

// Load answers the machine whose Save is p. Other bytes may tell the same, with noughts at the end of the slots: no machine was saved as these.
func Load(img api.Image, input []int64, p []byte) (*Machine, api.Errno) {
	m, e := New(img, input)
	if e != api.OK {
		return nil, e
	}
	from := reader{rest: p}
	m.now = state{}
	if from.walk().machine(m) != nil || !m.fits() || !bytes.Equal(m.Save(), p) {
		return nil, api.ErrForm
	}
	return m, api.OK
}

// walk goes through a machine in the order of its bytes, by the method value of a writer, which leaves it as it is, or of a reader, which puts there what it reads.
type walk struct {
	number func(n *int64) error
}

func (k walk) machine(m *Machine) error {
	s := &m.now
	steps := m.steps.Load()
	if err := k.number(&steps); err != nil {
		return err
	}
	m.steps.Store(steps)
	end := int(s.end)
	if err := k.counts(&end, &s.at, &s.read, &s.marks); err != nil {
		return err
	}
	s.end = byte(end)
	if err := k.number(&s.exit); err != nil {
		return err
	}
	if err := k.numbers(&s.outs, (*[]int64)(&s.heap)); err != nil {
		return err
	}
	return packed.Each(&s.calls, k.count, k.call)
}

func (k walk) call(c *call) error {
	if err := k.counts(&c.fn, &c.next); err != nil {
		return err
	}
	for i := range c.regs {
		if err := k.number(&c.regs[i]); err != nil {
			return err
		}
	}
	c.slots = shorn(c.slots)
	return k.numbers(&c.slots, &c.args, &c.laid)
}

// shorn answers a list without the noughts at its end: a slot that was written to is as one that wasn't, if it has 0 again.
func shorn(l []int64) []int64 {
	for len(l) > 0 && l[len(l)-1] == 0 {
		l = l[:len(l)-1]
	}
	return l
}

func (k walk) numbers(lists ...*[]int64) error {
	for _, l := range lists {
		if err := packed.Each(l, k.count, k.number); err != nil {
			return err
		}
	}
	return nil
}

func (k walk) counts(l ...*int) error {
	for _, n := range l {
		if err := k.count(n); err != nil {
			return err
		}
	}
	return nil
}

func (k walk) count(n *int) error {
	x := int64(*n)
	if err := k.number(&x); err != nil {
		return err
	}
	*n = int(x)
	return nil
}

type writer struct {
	bytes []byte
}

func (w *writer) walk() walk {
	return walk{number: w.number}
}

func (w *writer) number(n *int64) error {
	w.bytes = packed.AppendSigned(w.bytes, *n)
	return nil
}

type reader struct {
	rest packed.Rest
}

func (r *reader) walk() walk {
	return walk{number: r.number}
}

func (r *reader) number(n *int64) error {
	x, err := r.rest.Signed()
	if err != nil {
		return err
	}
	*n = x
	return nil
}
