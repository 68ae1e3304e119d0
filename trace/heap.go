package trace

import "teasel/api"

// heap is the cells that are in use. What is asked of it is answered with 0, or with how the run ends by it.
type heap struct {
	cells []int64
}

// alloc brings an array into use, with its length ahead of it.
func (h *heap) alloc(n int64) (int64, byte) {
	if int64(len(h.cells))+1+n > api.MaxHeap {
		return 0, api.StopHeap
	}
	h.cells = append(h.cells, n)
	array := h.top()
	h.cells = append(h.cells, make([]int64, n)...)
	return array, 0
}

func (h *heap) top() int64 {
	return int64(len(h.cells))
}

// free leaves just so many cells in use.
func (h *heap) free(n int64) byte {
	if n < 0 || n > h.top() {
		return api.Wrong
	}
	h.cells = h.cells[:n]
	return 0
}

func (h *heap) length(array int64) (int64, byte) {
	if array < 1 || array > h.top() {
		return 0, api.Wrong
	}
	return h.cells[array-1], 0
}

// find answers an array's cell. What stands where its length does may be any number, and so may the place.
func (h *heap) find(array, place int64) (*int64, byte) {
	n, end := h.length(array)
	switch {
	case end != 0:
		return nil, end
	case place < 0 || place >= n:
		return nil, api.TrapCell
	case place >= h.top()-array:
		return nil, api.Wrong
	}
	return &h.cells[array+place], 0
}

func (h *heap) load(array, place int64) (int64, byte) {
	x, end := h.find(array, place)
	if end != 0 {
		return 0, end
	}
	return *x, 0
}

func (h *heap) store(array, place, n int64) byte {
	x, end := h.find(array, place)
	if end == 0 {
		*x = n
	}
	return end
}
