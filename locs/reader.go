package locs

import (
	"math"

	"teasel/api"
	"teasel/packed"
)

type reader struct {
	rest packed.Rest
}

func (r *reader) walk() *walk {
	return &walk{number: r.number, above: r.above, kind: r.kind, signed: r.signed}
}

func (r *reader) number(n *int) error {
	return r.above(n, 0)
}

func (r *reader) above(n *int, from int) error {
	x, err := r.next()
	if err != nil {
		return err
	}
	if x > uint64(math.MaxInt32-from) {
		return packed.Wrong
	}
	*n = from + int(x)
	return nil
}

func (r *reader) kind(b *byte) error {
	x, err := r.next()
	if err != nil {
		return err
	}
	if x > api.LSlot {
		return packed.Wrong
	}
	*b = byte(x)
	return nil
}

func (r *reader) signed(n *int64) error {
	x, err := r.next()
	if err != nil {
		return err
	}
	*n = int64(x>>1) ^ -int64(x&1)
	return nil
}

func (r *reader) next() (uint64, error) {
	first, err := r.rest.Take(1)
	if err != nil {
		return 0, err
	}
	if first[0] <= short {
		return uint64(first[0]), nil
	}
	size := int(first[0]) - short
	l, err := r.rest.Take(size)
	if err != nil {
		return 0, err
	}
	var x uint64
	for _, b := range l {
		x = x<<8 | uint64(b)
	}
	return x, packed.Unless(x > short && packed.Size(x) == size)
}
