package locs

import (
	"math"

	"teasel/packed"
)

type writer struct {
	bytes []byte
}

func (w *writer) walk() *walk {
	return &walk{number: w.number, above: w.above, kind: w.kind, signed: w.signed}
}

func (w *writer) number(n *int) error {
	return w.above(n, 0)
}

func (w *writer) above(n *int, from int) error {
	if *n < from || *n > math.MaxInt32 {
		return packed.Wrong
	}
	w.bytes = packed.Append(w.bytes, uint64(*n-from))
	return nil
}

func (w *writer) kind(b *byte) error {
	w.bytes = packed.Append(w.bytes, uint64(*b))
	return nil
}

func (w *writer) signed(n *int64) error {
	w.bytes = packed.AppendSigned(w.bytes, *n)
	return nil
}
