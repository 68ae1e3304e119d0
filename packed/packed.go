// Package packed has what inst, locs and vm need alike to write things as bytes and to read them.
package packed

import (
	"errors"
	"math/bits"

	"teasel/api"
)

// The faults: Many of what is too long, Wrong of all else that isn't of the form.
var (
	Many  = errors.New("too many")
	Wrong = errors.New("not of the form")
)

// Errno answers as which error a fault is told.
func Errno(fault error) api.Errno {
	switch {
	case fault == nil:
		return api.OK
	case errors.Is(fault, Many):
		return api.ErrLong
	}
	return api.ErrForm
}

// Unless answers no fault if something is as it must be.
func Unless(is bool) error {
	if is {
		return nil
	}
	return Wrong
}

// Each goes through a list up to the first fault: count is handed how many items it has, then item each of them. A count that puts a greater number there has the list grow, item by item, so that lists are read as they are written, and a number to which no items belong needs no room.
func Each[T any](l *[]T, count func(n *int) error, item func(x *T) error) error {
	n := len(*l)
	if err := count(&n); err != nil {
		return err
	}
	for i := range n {
		if i == len(*l) {
			var next T
			*l = append(*l, next)
		}
		if err := item(&(*l)[i]); err != nil {
			return err
		}
	}
	return nil
}

// Size answers how many bytes a number without a sign needs: of 0 none.
func Size(n uint64) int {
	return (bits.Len64(n) + 7) / 8
}

// Rest is what is left of bytes that are read.
type Rest []byte

// Take answers the next n bytes, which are the caller's still: they aren't to be written over, nor kept.
func (r *Rest) Take(n int) ([]byte, error) {
	if n > len(*r) {
		return nil, Wrong
	}
	l := (*r)[:n]
	*r = (*r)[n:]
	return l, nil
}

// short is the greatest number without a sign that is a byte itself; a greater one stands behind a byte that is greater by how many bytes it has.
const short = 0xf7

// Append adds a number without a sign to bytes, in as few as there must be.
func Append(p []byte, n uint64) []byte {
	if n <= short {
		return append(p, byte(n))
	}
	size := Size(n)
	p = append(p, byte(short+size))
	for i := size - 1; i >= 0; i-- {
		p = append(p, byte(n>>(8*i)))
	}
	return p
}

// Number answers the next number that Append added.
func (r *Rest) Number() (uint64, error) {
	first, err := r.Take(1)
	if err != nil {
		return 0, err
	}
	if first[0] <= short {
		return uint64(first[0]), nil
	}
	size := int(first[0]) - short
	l, err := r.Take(size)
	if err != nil {
		return 0, err
	}
	var n uint64
	for _, b := range l {
		n = n<<8 | uint64(b)
	}
	return n, Unless(n > short && Size(n) == size)
}

// AppendSigned adds a number with a sign, so that small ones are short, be they above 0 or below.
func AppendSigned(p []byte, n int64) []byte {
	return Append(p, uint64(n<<1^n>>63))
}

// Signed answers the next number that AppendSigned added.
func (r *Rest) Signed() (int64, error) {
	n, err := r.Number()
	if err != nil {
		return 0, err
	}
	return int64(n>>1) ^ -int64(n&1), nil
}
