// Package cells has the heap that the runs of trace and the machines of vm have alike.
package cells

import "teasel/api"

// Heap is the cells that are in use. What is asked of it is answered with 0, or with how the run ends by it.
type Heap []int64

// Alloc brings an array into use, with its length, which isn't below 0, ahead of it.
func (h *Heap) Alloc(n int64) (int64, byte) {
	if n > api.MaxHeap-1-h.Top() {
		return 0, api.StopHeap
	}
	*h = append(*h, n)
	array := h.Top()
	*h = append(*h, make([]int64, n)...)
	return array, 0
}

// Top answers how many cells are in use.
func (h *Heap) Top() int64 {
	return int64(len(*h))
}

// Free leaves just so many cells in use.
func (h *Heap) Free(n int64) byte {
	if n < 0 || n > h.Top() {
		return api.Wrong
	}
	*h = (*h)[:n]
	return 0
}

// Length answers an array's length.
func (h *Heap) Length(array int64) (int64, byte) {
	if array < 1 || array > h.Top() {
		return 0, api.Wrong
	}
	return (*h)[array-1], 0
}

// find answers an array's cell. What stands where its length does may be any number, and so may the place.
func (h *Heap) find(array, place int64) (*int64, byte) {
	n, end := h.Length(array)
	switch {
	case end != 0:
		return nil, end
	case place < 0 || place >= n:
		return nil, api.TrapCell
	case place >= h.Top()-array:
		return nil, api.Wrong
	}
	return &(*h)[array+place], 0
}

// Load answers what stands in an array's cell.
func (h *Heap) Load(array, place int64) (int64, byte) {
	x, end := h.find(array, place)
	if end != 0 {
		return 0, end
	}
	return *x, 0
}

// Store puts a number into an array's cell.
func (h *Heap) Store(array, place, n int64) byte {
	x, end := h.find(array, place)
	if end == 0 {
		*x = n
	}
	return end
}
