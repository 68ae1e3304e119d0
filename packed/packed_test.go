package packed_test

import (
	"errors"
	"fmt"
	"math"
	"slices"
	"testing"

	"teasel/api"
	"teasel/packed"
)

func TestErrno(t *testing.T) {
	for _, x := range []struct {
		fault error
		want  api.Errno
	}{{nil, api.OK}, {packed.Many, api.ErrLong}, {packed.Wrong, api.ErrForm}, {fmt.Errorf("at 3: %w", packed.Many), api.ErrLong}, {fmt.Errorf("at 3: %w", packed.Wrong), api.ErrForm}} {
		if got := packed.Errno(x.fault); got != x.want {
			t.Error(x.fault, got)
		}
	}
	if packed.Unless(true) != nil || !errors.Is(packed.Unless(false), packed.Wrong) {
		t.Error("Unless")
	}
}

// TestEachOfAListThatIsThere: its items are handed out themselves, in order, behind how many they are.
func TestEachOfAListThatIsThere(t *testing.T) {
	for n := range 9 {
		room := make([]string, n, n+3)
		for i := range room {
			room[i] = fmt.Sprint(i)
		}
		l := room
		told := -1
		var got []*string
		err := packed.Each(&l, func(n *int) error { told = *n; return nil }, func(x *string) error { got = append(got, x); return nil })
		if err != nil || told != n || len(got) != n || len(l) != n {
			t.Fatal(n, err, told, len(got), len(l))
		}
		for i := range room {
			if got[i] != &room[i] {
				t.Fatal(n, i)
			}
		}
	}
}

// TestEachOfAListThatGrows: by as many items as are counted, which are nothing yet when they are handed out.
func TestEachOfAListThatGrows(t *testing.T) {
	for n := range 200 {
		var l []int
		next := 0
		err := packed.Each(&l, func(x *int) error { *x = n; return nil }, func(x *int) error {
			if *x != 0 {
				return packed.Wrong
			}
			next++
			*x = next
			return nil
		})
		if err != nil || len(l) != n {
			t.Fatal(n, err, len(l))
		}
		for i, x := range l {
			if x != i+1 {
				t.Fatal(l)
			}
		}
	}
}

// TestEachEndsAtTheFirstFault: the count's, too, however many items were told.
func TestEachEndsAtTheFirstFault(t *testing.T) {
	const many = 1<<31 - 1
	for at := range 5 {
		l := []int{0, 1, 2, 3, 4}
		var got []int
		err := packed.Each(&l, func(n *int) error { *n = many; return nil }, func(x *int) error {
			got = append(got, *x)
			return packed.Unless(*x != at)
		})
		if !errors.Is(err, packed.Wrong) || !slices.Equal(got, l[:at+1]) {
			t.Error(at, err, got)
		}
		err = packed.Each(&l, func(n *int) error { return packed.Many }, func(x *int) error { t.Error(*x); return nil })
		if !errors.Is(err, packed.Many) {
			t.Error(err)
		}
	}
	var l []int
	if err := packed.Each(&l, func(n *int) error { *n = many; return nil }, func(x *int) error { return packed.Unless(len(l) < 3) }); err == nil || len(l) != 3 {
		t.Error(err, len(l))
	}
}

func TestSize(t *testing.T) {
	for n, want := range map[uint64]int{0: 0, 1: 1, 255: 1, 256: 2, 65535: 2, 65536: 3, 1<<56 - 1: 7, 1 << 56: 8, 1<<64 - 1: 8} {
		if got := packed.Size(n); got != want {
			t.Error(n, got)
		}
	}
}

func TestTake(t *testing.T) {
	r := packed.Rest{1, 2, 3, 4}
	for _, x := range []struct {
		n    int
		want []byte
		left int
	}{{0, nil, 4}, {1, []byte{1}, 3}, {2, []byte{2, 3}, 1}, {1, []byte{4}, 0}, {0, nil, 0}} {
		if l, err := r.Take(x.n); err != nil || !slices.Equal(l, x.want) || len(r) != x.left {
			t.Error(x, l, err, r)
		}
	}
	r = packed.Rest{1, 2}
	if l, err := r.Take(3); !errors.Is(err, packed.Wrong) || l != nil || len(r) != 2 {
		t.Error(l, err, r)
	}
}

// TestNumbers: up to f7 a byte, else as few as there must be, behind how many they are.
func TestNumbers(t *testing.T) {
	for n, want := range map[uint64][]byte{0: {0}, 1: {1}, 0xf7: {0xf7}, 0xf8: {0xf8, 0xf8}, 0xff: {0xf8, 0xff}, 0x100: {0xf9, 1, 0}, 0x12345: {0xfa, 1, 0x23, 0x45}, 1<<56 - 1: {0xfe, 255, 255, 255, 255, 255, 255, 255}, 1 << 56: {0xff, 1, 0, 0, 0, 0, 0, 0, 0}, 1<<64 - 1: {0xff, 255, 255, 255, 255, 255, 255, 255, 255}} {
		p := packed.Append([]byte{9}, n)
		if !slices.Equal(p, append([]byte{9}, want...)) {
			t.Errorf("%x: % x", n, p)
		}
		r := packed.Rest(append(p[1:], 7))
		if got, err := r.Number(); got != n || err != nil || len(r) != 1 {
			t.Errorf("%x: %x, %v", n, got, err)
		}
		for cut := range want {
			r := packed.Rest(want[:cut])
			if _, err := r.Number(); !errors.Is(err, packed.Wrong) {
				t.Errorf("% x: %v", want[:cut], err)
			}
		}
	}
	for _, p := range [][]byte{{0xf8, 0}, {0xf8, 0xf7}, {0xf9, 0, 0xff}, {0xf9, 0, 5}, {0xff, 0, 1, 2, 3, 4, 5, 6, 7}} {
		r := packed.Rest(p)
		if _, err := r.Number(); !errors.Is(err, packed.Wrong) {
			t.Errorf("% x: %v", p, err)
		}
		r = packed.Rest(p)
		if n, err := r.Signed(); n != 0 || !errors.Is(err, packed.Wrong) {
			t.Errorf("% x: %d, %v", p, n, err)
		}
	}
}

// TestNumbersWithASign: 2 n of one from 0 on, -2 n - 1 of one below.
func TestNumbersWithASign(t *testing.T) {
	for n, want := range map[int64][]byte{0: {0}, -1: {1}, 1: {2}, -2: {3}, 123: {0xf6}, -124: {0xf7}, 124: {0xf8, 0xf8}, math.MaxInt64: {0xff, 255, 255, 255, 255, 255, 255, 255, 254}, math.MinInt64: {0xff, 255, 255, 255, 255, 255, 255, 255, 255}} {
		p := packed.AppendSigned(nil, n)
		if !slices.Equal(p, want) {
			t.Errorf("%d: % x", n, p)
		}
		r := packed.Rest(p)
		if got, err := r.Signed(); got != n || err != nil || len(r) != 0 {
			t.Errorf("%d: %d, %v", n, got, err)
		}
	}
}
