package trace_test

import (
	"math"
	"slices"
	"testing"

	"teasel/api"
)

// number puts a number into a value.
func number(dst int, n int64) api.Inst {
	return with(api.IConst, dst, n)
}

func show(value int) api.Inst {
	return inst(api.IPrint, -1, value)
}

// TestArrays: an array is the place of its first cell; ahead of that stands its length.
func TestArrays(t *testing.T) {
	c := straight(
		inst(api.ITop, 0), show(0), with(api.IAlloc, 1, 3), show(1), inst(api.ITop, 2), show(2), with(api.IAlloc, 3, 1), show(3), inst(api.ITop, 4), show(4),
		inst(api.ILen, 5, 1), show(5), inst(api.ILen, 6, 3), show(6))
	wantOuts(t, c, nil, 0, 1, 4, 5, 6, 3, 1)
}

func TestCells(t *testing.T) {
	c := straight(
		with(api.IAlloc, 0, 2), with(api.IAlloc, 1, 2), number(2, 0), number(3, 1), number(4, 77), number(5, 88),
		inst(api.IStore, -1, 0, 3, 4), inst(api.IStore, -1, 1, 2, 5),
		inst(api.ILoad, 6, 0, 2), show(6), inst(api.ILoad, 7, 0, 3), show(7), inst(api.ILoad, 8, 1, 2), show(8), inst(api.ILoad, 9, 1, 3), show(9),
		inst(api.ILen, 10, 1), show(10))
	wantOuts(t, c, nil, 0, 77, 88, 0, 2)
}

// TestPlacesOfCells: with arrays of 3 and 5 cells; below 0, and from the length on, there are none.
func TestPlacesOfCells(t *testing.T) {
	for place, end := range map[int64]byte{0: api.Halt, 1: api.Halt, 2: api.Halt, -1: api.TrapCell, 3: api.TrapCell, 4: api.TrapCell, math.MinInt64: api.TrapCell, math.MaxInt64: api.TrapCell} {
		for _, x := range []api.Inst{inst(api.ILoad, 4, 0, 2), inst(api.IStore, -1, 0, 2, 3)} {
			stop := 0
			if end != api.Halt {
				stop = 3
			}
			wantEnd(t, straight(with(api.IAlloc, 0, 3), with(api.IAlloc, 1, 5), number(2, place), number(3, 6), at(3, x)), nil, end, stop)
		}
	}
}

// TestArraysAtPlacesThatAreNone: a length, a cell at any place, and a cell to be set, each at places where no array is.
func TestArraysAtPlacesThatAreNone(t *testing.T) {
	ahead := []api.Inst{with(api.IAlloc, 0, 3), number(2, 0)} // 4 cells are in use: 3, 0, 0, 0
	for place, end := range map[int64]byte{0: api.Wrong, -1: api.Wrong, 5: api.Wrong, 6: api.Wrong, math.MinInt64: api.Wrong, math.MaxInt64: api.Wrong, 4096: api.Wrong, 1: api.Halt, 2: api.Halt, 4: api.Halt} {
		wantEnd(t, straight(append(slices.Clone(ahead), number(1, place), at(5, inst(api.ILen, 3, 1)))...), nil, end, 0)
		if end == api.Halt {
			continue
		}
		for _, i := range []int64{0, -1, 1, math.MaxInt64, math.MinInt64} {
			wantEnd(t, straight(append(slices.Clone(ahead), number(1, place), number(4, i), at(5, inst(api.ILoad, 3, 1, 4)))...), nil, end, 0)
			wantEnd(t, straight(append(slices.Clone(ahead), number(1, place), number(4, i), at(5, inst(api.IStore, -1, 1, 4, 2)))...), nil, end, 0)
		}
	}
}

// TestWhatStandsAheadIsTheLength: of what is no array, too.
func TestWhatStandsAheadIsTheLength(t *testing.T) {
	// 4 cells are in use; the array's cell 0 has a number, that at the place 2 begins as if it were an array's.
	ahead := func(n int64) []api.Inst {
		return []api.Inst{with(api.IAlloc, 0, 3), number(1, 0), number(2, n), inst(api.IStore, -1, 0, 1, 2), number(3, 2), number(4, 4)}
	}
	wantOuts(t, straight(append(ahead(9), inst(api.ILen, 5, 3), show(5), inst(api.ILen, 6, 4), show(6))...), nil, 9, 0)
	for _, c := range []struct {
		length, place int64
		end           byte
	}{
		{0, 0, api.TrapCell}, {-5, 0, api.TrapCell}, {1, 0, api.Halt}, {1, 1, api.TrapCell}, {9, 1, api.Halt}, {9, 2, api.Wrong}, {9, 8, api.Wrong}, {9, 9, api.TrapCell}, {9, -1, api.TrapCell},
		{math.MaxInt64, math.MaxInt64 - 1, api.Wrong}, {math.MaxInt64, math.MaxInt64 - 2, api.Wrong}, {math.MaxInt64, math.MaxInt64, api.TrapCell}, {math.MinInt64, 0, api.TrapCell},
	} {
		stop := 0
		if c.end == api.TrapCell {
			stop = 7
		}
		for _, x := range []api.Inst{inst(api.ILoad, 8, 3, 7), inst(api.IStore, -1, 3, 7, 1)} {
			wantEnd(t, straight(append(ahead(c.length), number(7, c.place), at(7, x))...), nil, c.end, stop)
		}
	}
	// Of the place behind the last cell the last cell is the length; of its cells none is in use.
	wantEnd(t, straight(with(api.IAlloc, 0, 1), number(1, 0), number(2, 5), inst(api.IStore, -1, 0, 1, 2), inst(api.ITop, 3), inst(api.ILen, 4, 3), show(4), inst(api.ILoad, 5, 3, 1)), nil, api.Wrong, 0, 5)
}

// TestFree: so many cells stay in use; those that come into use again are 0.
func TestFree(t *testing.T) {
	c := straight(
		with(api.IAlloc, 0, 2), inst(api.ITop, 1), with(api.IAlloc, 2, 2), number(3, 0), number(4, 9), number(9, 1),
		inst(api.IStore, -1, 2, 3, 4), inst(api.IStore, -1, 2, 9, 4), inst(api.IStore, -1, 0, 9, 4),
		inst(api.IFree, -1, 1), inst(api.ITop, 5), show(5),
		with(api.IAlloc, 6, 2), show(6), inst(api.ILoad, 7, 6, 3), show(7), inst(api.ILoad, 8, 6, 9), show(8), inst(api.ILoad, 10, 0, 9), show(10),
		inst(api.IFree, -1, 1), with(api.IAlloc, 12, 9), inst(api.ILoad, 13, 12, 3), show(13), inst(api.ILoad, 14, 12, 9), show(14),
		inst(api.IFree, -1, 3), inst(api.ITop, 11), show(11), inst(api.IFree, -1, 3))
	wantOuts(t, c, nil, 3, 4, 0, 0, 9, 0, 0, 0)
}

// TestCellsOfWhatIsFreed: they aren't in use any more, all of an array's or some.
func TestCellsOfWhatIsFreed(t *testing.T) {
	for stays, end := range map[int64]byte{5: api.Halt, 4: api.Halt, 3: api.Wrong, 2: api.Wrong, 1: api.Wrong, 0: api.Wrong} {
		for _, x := range []api.Inst{inst(api.ILoad, 5, 0, 2), inst(api.IStore, -1, 0, 2, 2)} {
			wantEnd(t, straight(with(api.IAlloc, 0, 4), number(1, stays), number(2, 2), inst(api.IFree, -1, 1), x), nil, end, 0)
		}
		lengthEnd := byte(api.Halt)
		if stays == 0 {
			lengthEnd = api.Wrong
		}
		wantEnd(t, straight(with(api.IAlloc, 0, 4), number(1, stays), inst(api.IFree, -1, 1), inst(api.ILen, 2, 0)), nil, lengthEnd, 0)
	}
	// A place that isn't one of the array's traps, in use or not.
	wantEnd(t, straight(with(api.IAlloc, 0, 4), number(1, 1), number(2, 4), inst(api.IFree, -1, 1), at(2, inst(api.ILoad, 3, 0, 2))), nil, api.TrapCell, 2)
}

// TestFreeOfWhatIsNot: more than is in use, and less than nothing.
func TestFreeOfWhatIsNot(t *testing.T) {
	for n, end := range map[int64]byte{0: api.Halt, 1: api.Halt, 3: api.Halt, 4: api.Wrong, 4096: api.Wrong, math.MaxInt64: api.Wrong, -1: api.Wrong, math.MinInt64: api.Wrong} {
		wantEnd(t, straight(with(api.IAlloc, 0, 2), number(1, n), show(1), at(3, inst(api.IFree, -1, 1))), nil, end, 0, n)
	}
	wantEnd(t, straight(number(1, 0), inst(api.IFree, -1, 1)), nil, api.Halt, 0)
	wantEnd(t, straight(number(1, 1), inst(api.IFree, -1, 1)), nil, api.Wrong, 0)
}

// TestMostCells: MaxHeap may be in use, and not one more.
func TestMostCells(t *testing.T) {
	full := slices.Repeat([]api.Inst{{Op: api.IAlloc, Imm: 256}}, 15) // 3855 cells
	full = append(full, api.Inst{Op: api.IAlloc, Imm: 239})           // 4095
	for i := range full {
		full[i].Dst = i
	}
	last := append(slices.Clone(full), inst(api.ITop, 20), show(20), with(api.IAlloc, 21, 1))
	wantEnd(t, straight(last...), nil, api.StopHeap, 0, 4095)
	full[15].Imm = 238
	wantOuts(t, straight(append(slices.Clone(full), inst(api.ITop, 20), show(20), with(api.IAlloc, 21, 1), show(21), inst(api.ITop, 22), show(22))...), nil, 4094, 4095, 4096)
	wantEnd(t, straight(append(slices.Clone(full), inst(api.ITop, 20), show(20), at(5, with(api.IAlloc, 21, 2)))...), nil, api.StopHeap, 0, 4094)
	again := append(slices.Clone(full), inst(api.IFree, -1, 0), with(api.IAlloc, 21, 256), show(21))
	wantOuts(t, straight(again...), nil, 2)
}

// TestArraysOfCallers: the heap is all calls'.
func TestArraysOfCallers(t *testing.T) {
	f := fun(1, 0, ends(with(api.IParam, 0, 0), number(1, 1), number(2, 42), inst(api.IStore, -1, 0, 1, 2), with(api.IAlloc, 3, 7)))
	main := fun(0, 0, ends(with(api.IAlloc, 0, 2), with(api.ICall, -1, 1, 0), number(1, 1), inst(api.ILoad, 2, 0, 1), show(2), inst(api.ITop, 3), show(3)))
	wantOuts(t, program(main, f), nil, 42, 11)
}
