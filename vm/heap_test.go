package vm_test

import (
	"math"
	"slices"
	"testing"

	"teasel/api"
)

// shows prints a register.
func shows(r byte) api.Word {
	return op(api.MPrint, r)
}

func TestArrays(t *testing.T) {
	wantOuts(t, alone(0, op(api.MTop, 1), shows(1), with(api.MAlloc, 2, 1), shows(1), with(api.MAlloc, 3, 15), shows(15), op(api.MTop, 3), shows(3),
		op(api.MLen, 4, 1), shows(4), op(api.MLen, 15, 15), shows(15), op(api.MRet, 0)), nil, 0, 1, 4, 7, 2, 3)
}

func TestCells(t *testing.T) {
	wantOuts(t, alone(0, with(api.MAlloc, 2, 1), with(api.MAlloc, 2, 2), number(3, 0), number(4, 1), number(5, 77), number(6, math.MinInt64),
		op(api.MStore, 1, 4, 5), op(api.MStore, 2, 3, 6),
		op(api.MLoad, 7, 1, 3), shows(7), op(api.MLoad, 7, 1, 4), shows(7), op(api.MLoad, 7, 2, 3), shows(7), op(api.MLoad, 2, 2, 4), shows(2),
		op(api.MLen, 7, 1), shows(7), op(api.MRet, 0)), nil, 0, 77, math.MinInt64, 0, 2)
}

// TestPlacesOfCells: with arrays of 3 and 5 cells; below 0, and from the length on, there are none.
func TestPlacesOfCells(t *testing.T) {
	for place, end := range map[int64]byte{0: api.Halt, 2: api.Halt, -1: api.TrapCell, 3: api.TrapCell, 4: api.TrapCell, math.MinInt64: api.TrapCell, math.MaxInt64: api.TrapCell} {
		for _, w := range []api.Word{op(api.MLoad, 4, 1, 2), op(api.MStore, 1, 2, 3)} {
			at := 4
			if end == api.Halt {
				at = 5
			}
			wantEnd(t, alone(0, with(api.MAlloc, 3, 1), with(api.MAlloc, 5, 5), number(2, place), number(3, 6), w, op(api.MRet, 0)), nil, end, at)
		}
	}
}

// TestArraysAtPlacesThatAreNone: ahead of what is in use, and behind it, whatever cell is asked for.
func TestArraysAtPlacesThatAreNone(t *testing.T) {
	for place, end := range map[int64]byte{0: api.Wrong, -1: api.Wrong, 5: api.Wrong, 6: api.Wrong, math.MinInt64: api.Wrong, math.MaxInt64: api.Wrong, 4096: api.Wrong, 1: api.Halt, 2: api.Halt, 4: api.Halt} {
		start := []api.Word{with(api.MAlloc, 3, 1), number(1, place)} // 4 cells are in use: 3, 0, 0, 0
		at := 2
		if end == api.Halt {
			at = 3
		}
		wantEnd(t, alone(0, append(slices.Clone(start), op(api.MLen, 3, 1), op(api.MRet, 0))...), nil, end, at)
		if end == api.Halt {
			continue
		}
		for _, i := range []int64{0, -1, 1, math.MaxInt64, math.MinInt64} {
			wantEnd(t, alone(0, append(slices.Clone(start), number(4, i), op(api.MLoad, 3, 1, 4))...), nil, end, 3)
			wantEnd(t, alone(0, append(slices.Clone(start), number(4, i), op(api.MStore, 1, 4, 2))...), nil, end, 3)
		}
	}
}

// TestWhatStandsAheadIsTheLength: of what is no array, too; then a cell may be beyond what is in use.
func TestWhatStandsAheadIsTheLength(t *testing.T) {
	for _, x := range []struct {
		length, place int64
		end           byte
	}{
		{0, 0, api.TrapCell}, {-5, 0, api.TrapCell}, {1, 0, api.Halt}, {1, 1, api.TrapCell}, {9, 1, api.Halt}, {9, 2, api.Wrong}, {9, 8, api.Wrong}, {9, 9, api.TrapCell}, {9, -1, api.TrapCell},
		{math.MaxInt64, math.MaxInt64 - 1, api.Wrong}, {math.MaxInt64, math.MaxInt64 - 2, api.Wrong}, {math.MaxInt64, math.MaxInt64, api.TrapCell}, {math.MinInt64, 0, api.TrapCell},
	} {
		for _, w := range []api.Word{op(api.MLoad, 8, 3, 7), op(api.MStore, 3, 7, 1)} {
			at := 6
			if x.end == api.Halt {
				at = 7
			}
			// 4 cells are in use; that at the place 1 has a number, and at 2 an array begins, as it seems.
			wantEnd(t, alone(0, with(api.MAlloc, 3, 0), number(1, 0), number(2, x.length), op(api.MStore, 0, 1, 2), number(3, 2), number(7, x.place), w, op(api.MRet, 0)), nil, x.end, at)
		}
	}
	// Of the place behind the last cell the last cell is the length; of its cells none is in use.
	behind := []api.Word{with(api.MAlloc, 1, 0), number(1, 0), number(2, 5), op(api.MStore, 0, 1, 2), op(api.MTop, 3), op(api.MLen, 4, 3), shows(4), op(api.MLoad, 5, 3, 1)}
	wantEnd(t, alone(0, behind...), nil, api.Wrong, 7, 5)
	behind[7] = op(api.MStore, 3, 1, 5)
	wantEnd(t, alone(0, behind...), nil, api.Wrong, 7, 5)
}

// filled is what brings so many cells into use, by arrays of 255 and one that is smaller.
func filled(cells int) []api.Word {
	var l []api.Word
	for cells > 256 {
		step := min(256, cells-2)
		l = append(l, with(api.MAlloc, int64(step-1), 1))
		cells -= step
	}
	return append(l, with(api.MAlloc, int64(cells-1), 1))
}

// TestTheMostCells: MaxHeap may be in use, and not one more.
func TestTheMostCells(t *testing.T) {
	for _, cells := range []int{api.MaxHeap - 3, api.MaxHeap - 2, api.MaxHeap - 1, api.MaxHeap} {
		for n := int64(1); n <= 3; n++ {
			l := append(filled(cells), op(api.MTop, 2), shows(2), with(api.MAlloc, n, 3), shows(3), op(api.MRet, 0))
			if int64(cells)+1+n <= api.MaxHeap {
				wantOuts(t, alone(0, l...), nil, int64(cells), int64(cells)+1)
				continue
			}
			wantEnd(t, alone(0, l...), nil, api.StopHeap, len(l)-3, int64(cells))
		}
	}
	for _, n := range []int64{1, 2, 255, api.MaxCells} {
		wantOuts(t, alone(0, with(api.MAlloc, n, 1), op(api.MLen, 2, 1), shows(2), op(api.MTop, 2), shows(2), op(api.MRet, 0)), nil, n, n+1)
	}
	for _, n := range []int64{0, -1, api.MaxCells + 1, math.MaxInt64} {
		wantEnd(t, alone(0, with(api.MAlloc, n, 1)), nil, api.Wrong, 0)
	}
	full := append(filled(api.MaxHeap), number(2, 0), op(api.MFree, 2), with(api.MAlloc, 256, 2), shows(2), op(api.MRet, 0))
	wantOuts(t, alone(0, full...), nil, 1)
}

// TestFree: to each height; and what comes into use again is 0.
func TestFree(t *testing.T) {
	for height := int64(-1); height <= 6; height++ {
		l := []api.Word{with(api.MAlloc, 4, 1), number(2, 3), op(api.MStore, 1, 2, 2), number(3, height), op(api.MFree, 3), op(api.MTop, 4), shows(4), with(api.MAlloc, 4, 5), op(api.MLoad, 6, 5, 2), shows(6), op(api.MRet, 0)}
		if height < 0 || height > 5 {
			wantEnd(t, alone(0, l...), nil, api.Wrong, 4)
			continue
		}
		wantOuts(t, alone(0, l...), nil, height, 0)
	}
	for _, height := range []int64{math.MinInt64, math.MaxInt64, api.MaxHeap, 1} {
		wantEnd(t, alone(0, number(3, height), op(api.MFree, 3)), nil, api.Wrong, 1)
	}
	wantOuts(t, alone(0, op(api.MFree, 3), op(api.MRet, 0)), nil)
}

// TestCellsOfWhatIsFreed: they aren't in use any more, all of an array's or some.
func TestCellsOfWhatIsFreed(t *testing.T) {
	for stays, end := range map[int64]byte{5: api.Halt, 4: api.Halt, 3: api.Wrong, 2: api.Wrong, 1: api.Wrong, 0: api.Wrong} {
		for _, w := range []api.Word{op(api.MLoad, 5, 0, 2), op(api.MStore, 0, 2, 2)} {
			at := 4
			if end == api.Halt {
				at = 5
			}
			wantEnd(t, alone(0, with(api.MAlloc, 4, 0), number(1, stays), number(2, 2), op(api.MFree, 1), w, op(api.MRet, 0)), nil, end, at)
		}
	}
	// A place that isn't one of the array's traps, in use or not.
	wantEnd(t, alone(0, with(api.MAlloc, 4, 0), number(1, 1), number(2, 4), op(api.MFree, 1), op(api.MLoad, 3, 0, 2)), nil, api.TrapCell, 4)
}

// TestTheHeapIsAllCalls: what a call brings into use, or puts there, stays when it ends.
func TestTheHeapIsAllCalls(t *testing.T) {
	img := several(
		[]api.Word{with(api.MAlloc, 2, 1), op(api.MArg, 1), with(api.MCall, 1, 2), number(3, 1), op(api.MLoad, 4, 1, 3), shows(4), op(api.MTop, 5), shows(5), op(api.MLen, 6, 2), shows(6), op(api.MRet, 0)},
		[]api.Word{with(api.MGive, 0, 9), number(1, 1), number(2, 42), op(api.MStore, 9, 1, 2), with(api.MAlloc, 7, 3), op(api.MRet, 3)},
	)
	wantOuts(t, img, nil, 42, 11, 7)
}
