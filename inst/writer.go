package inst

import (
	"math/bits"

	"teasel/packed"
)

// writer has no faults: what isn't right is told by the walk.
type writer struct {
	bytes []byte
}

func (w *writer) walk() walk {
	return walk{one: w.one, signed: w.signed, unsigned: w.unsigned}
}

func (w *writer) one(b *byte) error {
	w.bytes = append(w.bytes, *b)
	return nil
}

func (w *writer) signed(n *int64) error {
	w.number(uint64(*n), signedSize(*n))
	return nil
}

func (w *writer) unsigned(n *int64) error {
	w.number(uint64(*n), packed.Size(uint64(*n)))
	return nil
}

func (w *writer) number(n uint64, size int) {
	w.bytes = append(w.bytes, byte(size))
	for range size {
		w.bytes = append(w.bytes, byte(n))
		n >>= 8
	}
}

// signedSize answers how many bytes a number with a sign needs: as its highest bit is its sign, one bit more than its other ones.
func signedSize(n int64) int {
	if n == 0 {
		return 0
	}
	return bits.Len64(uint64(n^n>>63))/8 + 1
}
