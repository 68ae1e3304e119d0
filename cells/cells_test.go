package cells_test

import (
	"math"
	"slices"
	"testing"

	"teasel/api"
	"teasel/cells"
)

func TestHeap(t *testing.T) {
	var h cells.Heap
	a, end := h.Alloc(2)
	b, end2 := h.Alloc(0)
	if a != 1 || b != 4 || end != 0 || end2 != 0 || h.Top() != 4 {
		t.Fatal(a, b, h)
	}
	if end := h.Store(a, 1, 9); end != 0 || !slices.Equal(h, cells.Heap{2, 0, 9, 0}) {
		t.Error(end, h)
	}
	if n, end := h.Load(a, 1); n != 9 || end != 0 {
		t.Error(n, end)
	}
	if n, end := h.Length(a); n != 2 || end != 0 {
		t.Error(n, end)
	}
	if end := h.Free(2); end != 0 || h.Top() != 2 {
		t.Error(end, h)
	}
	if c, end := h.Alloc(1); c != 3 || end != 0 || !slices.Equal(h, cells.Heap{2, 0, 1, 0}) {
		t.Error(c, h)
	}
}

// TestEnds: nothing is answered, and nothing changes.
func TestEnds(t *testing.T) {
	h := cells.Heap{9, 0, 1, 7} // of an array that has cells beyond what is in use, and one of one cell
	for _, x := range []struct {
		array, place int64
		end          byte
	}{
		{0, 0, api.Wrong}, {-1, 0, api.Wrong}, {5, 0, api.Wrong}, {math.MinInt64, 0, api.Wrong}, {math.MaxInt64, 0, api.Wrong},
		{1, 3, api.Wrong}, {1, 8, api.Wrong}, {1, 9, api.TrapCell}, {1, -1, api.TrapCell}, {3, 1, api.TrapCell}, {3, math.MaxInt64, api.TrapCell}, {4, 0, api.Wrong}, {2, 0, api.TrapCell},
	} {
		if n, end := h.Load(x.array, x.place); n != 0 || end != x.end {
			t.Error(x, n, end)
		}
		if end := h.Store(x.array, x.place, 5); end != x.end {
			t.Error(x, end)
		}
	}
	for _, a := range []int64{0, -1, 5, math.MinInt64, math.MaxInt64} {
		if n, end := h.Length(a); n != 0 || end != api.Wrong {
			t.Error(a, n, end)
		}
	}
	for _, n := range []int64{-1, 5, math.MinInt64, math.MaxInt64} {
		if end := h.Free(n); end != api.Wrong {
			t.Error(n, end)
		}
	}
	for _, n := range []int64{api.MaxHeap - 4, api.MaxHeap, math.MaxInt64} {
		if a, end := h.Alloc(n); a != 0 || end != api.StopHeap {
			t.Error(n, a, end)
		}
	}
	if !slices.Equal(h, cells.Heap{9, 0, 1, 7}) {
		t.Error(h)
	}
	if a, end := h.Alloc(api.MaxHeap - 5); a != 5 || end != 0 || h.Top() != api.MaxHeap {
		t.Error(a, end, h.Top())
	}
	if a, end := h.Alloc(0); a != 0 || end != api.StopHeap {
		t.Error(a, end)
	}
}
