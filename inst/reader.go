package inst

import "teasel/packed"

type reader struct {
	rest packed.Rest
}

func (r *reader) walk() walk {
	return walk{one: r.one, signed: r.signed, unsigned: r.unsigned}
}

func (r *reader) one(b *byte) error {
	l, err := r.rest.Take(1)
	if err != nil {
		return err
	}
	*b = l[0]
	return nil
}

func (r *reader) signed(n *int64) error {
	low, size, err := r.number()
	if err != nil {
		return err
	}
	above := 64 - 8*size
	*n = int64(low<<above) >> above
	return packed.Unless(signedSize(*n) == size)
}

// unsigned lets what is too great for an Imm come out below 0, where it isn't right.
func (r *reader) unsigned(n *int64) error {
	low, size, err := r.number()
	if err != nil {
		return err
	}
	*n = int64(low)
	return packed.Unless(packed.Size(low) == size)
}

// number answers the bits that stand in a number's bytes, and how many bytes these are.
func (r *reader) number() (uint64, int, error) {
	var size byte
	if err := r.one(&size); err != nil {
		return 0, 0, err
	}
	if size > 8 {
		return 0, 0, packed.Wrong
	}
	l, err := r.rest.Take(int(size))
	if err != nil {
		return 0, 0, err
	}
	var low uint64
	for i, b := range l {
		low |= uint64(b) << (8 * i)
	}
	return low, int(size), nil
}
