package locs

import (
	"math"

	"teasel/api"
	"teasel/packed"
)

type reader struct {
	rest packed.Rest
}

func (r *reader) walk() *walk {
	return &walk{number: r.number, above: r.above, kind: r.kind, signed: r.signed}
}

func (r *reader) number(n *int) error {
	return r.above(n, 0)
}

func (r *reader) above(n *int, from int) error {
	x, err := r.rest.Number()
	if err != nil {
		return err
	}
	if x > uint64(math.MaxInt32-from) {
		return packed.Wrong
	}
	*n = from + int(x)
	return nil
}

func (r *reader) kind(b *byte) error {
	x, err := r.rest.Number()
	if err != nil {
		return err
	}
	if x > api.LSlot {
		return packed.Wrong
	}
	*b = byte(x)
	return nil
}

func (r *reader) signed(n *int64) error {
	x, err := r.rest.Signed()
	if err != nil {
		return err
	}
	*n = x
	return nil
}
