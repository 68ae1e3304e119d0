package locs

import (
	"math"

	"teasel/packed"
)

// short is the greatest number that is a byte itself; a greater one stands behind a byte that is greater by how many bytes it has.
const short = 0xf7

type writer struct {
	bytes []byte
}

func (w *writer) walk() *walk {
	return &walk{number: w.number, above: w.above, kind: w.kind, signed: w.signed}
}

func (w *writer) number(n *int) error {
	return w.above(n, 0)
}

func (w *writer) above(n *int, from int) error {
	if *n < from || *n > math.MaxInt32 {
		return packed.Wrong
	}
	w.put(uint64(*n - from))
	return nil
}

func (w *writer) kind(b *byte) error {
	w.put(uint64(*b))
	return nil
}

func (w *writer) signed(n *int64) error {
	w.put(uint64(*n<<1 ^ *n>>63))
	return nil
}

func (w *writer) put(n uint64) {
	if n <= short {
		w.bytes = append(w.bytes, byte(n))
		return
	}
	size := packed.Size(n)
	w.bytes = append(w.bytes, byte(short+size))
	for i := size - 1; i >= 0; i-- {
		w.bytes = append(w.bytes, byte(n>>(8*i)))
	}
}
